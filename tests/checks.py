"""What several tests check of each call."""

import inspect
import unittest

from tests.samples import image, same, shown


class CallsTest(unittest.TestCase):
    def call(self, function, *arguments, **keywords):
        """The result of a call, which is to change nothing and to give the same a second time."""
        before = image((arguments, keywords))
        got = function(*arguments, **keywords)
        again = function(*arguments, **keywords)
        told = f"{function.__name__}{shown(arguments)} {shown(tuple(keywords.items()))}"
        self.assertTrue(same(got, again), f"{told}: {shown(got)}, then {shown(again)}")
        self.assertTrue(image((arguments, keywords)) == before, f"{told}: an argument is changed")
        return got

    def check(self, expected, function, *arguments, **keywords):
        got = self.call(function, *arguments, **keywords)
        if not same(got, expected):
            self.fail(f"{function.__name__}{shown(arguments)} {shown(tuple(keywords.items()))}: "
                      f"{shown(got)} is not {shown(expected)}")

    def check_interface(self, module, signatures):
        for name, signature in signatures.items():
            function = getattr(module, name)
            self.assertEqual(function.__module__, module.__name__)
            self.assertEqual(str(inspect.signature(function)), signature)
