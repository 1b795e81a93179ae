"""The examples in README.md tell what the program tells."""

import doctest
import unittest


def load_tests(loader, tests, pattern):
    tests.addTests(doctest.DocFileSuite("../README.md"))
    return tests


if __name__ == "__main__":
    unittest.main()
