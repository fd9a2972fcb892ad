import doctest
import pathlib
import unittest

README = pathlib.Path(__file__).resolve().parent.parent / "README.md"


class ReadmeTest(unittest.TestCase):
    def test_each_example_answers_as_it_says(self):
        result = doctest.testfile(str(README), module_relative=False, encoding="utf-8")
        self.assertEqual(result.failed, 0)
        self.assertGreater(result.attempted, 10)


if __name__ == "__main__":
    unittest.main()
