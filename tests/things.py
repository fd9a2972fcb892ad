"""Things that several tests are made with."""


def chain(deep, leaf=("a",), head="f"):
    """A leaf below so many heads that the whole is just so deep (and just so heavy)."""
    thing = leaf
    for _ in range(deep - 1):
        thing = (head, thing)
    return thing


def flat(heavy, leaf=("a",), head="f"):
    """A head with so many leaves that the whole is just so heavy."""
    return (head,) + (leaf,) * (heavy - 1)


def chain_and_flat(deep, heavy, leaf=("a",), head="f"):
    """A chain just so deep, with leaves beside it, so that the whole is just so heavy."""
    return chain(deep, leaf, head) + (leaf,) * (heavy - deep)


def all_things(length, leaves, heads):
    """All things whose text has just so many signs; leaves is a dict of texts and things, heads a list of texts."""
    found = [leaves[text] for text in leaves if len(text) == length]
    for head in heads:
        for parts in all_rows(length - len(head) - 2, leaves, heads):
            found.append((head,) + parts)
    return found


def all_rows(length, leaves, heads):
    """All rows of one or more things whose texts, with commas between, have together just so many signs."""
    found = [(thing,) for thing in all_things(length, leaves, heads)] if length > 0 else []
    for first_length in range(1, length - 1):
        for first in all_things(first_length, leaves, heads):
            for others in all_rows(length - first_length - 1, leaves, heads):
                found.append((first,) + others)
    return found
