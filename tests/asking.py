"""What holds of every answer: nothing handed in is changed, and each list told is the asker's own."""

import copy


def lists_in(thing):
    """Every list that stands in the thing, as often as it stands there."""
    if not isinstance(thing, (list, tuple)):
        return []
    found = [thing] if isinstance(thing, list) else []
    for inner in thing:
        found.extend(lists_in(inner))
    return found


def check_own(test, ask, *given):
    """Asks several times, spoils an answer, and hands back another one."""
    before = copy.deepcopy(given)
    first = ask(*given)
    second = ask(*given)
    test.assertEqual(given, before)
    test.assertEqual(repr(first), repr(second))
    expected = copy.deepcopy(second)
    lists = lists_in(first) + lists_in(second)
    test.assertEqual(len({id(one) for one in lists}), len(lists), "two lists that are told are one")
    kept = {id(one) for one in lists_in(given)}
    test.assertEqual([one for one in lists if id(one) in kept], [], "a list that is told is one that was handed in")
    for one in lists_in(first):
        one.append("strange")
        one[0] = "strange"
    test.assertEqual(given, before)
    test.assertEqual(second, expected)
    test.assertEqual(ask(*given), expected)
    return second
