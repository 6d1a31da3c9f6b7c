"""What the tests share: values of every kind, and checks of errors and of arguments that stay as they were."""

import copy
import unittest

from anyfactors.errors import FactorError
from anyfactors.verdicts import Verdict

HUGE = 10 ** 5000

# "Any value": None, truths, integers, strings, and lists, tuples and dicts of these, nested.
ANY_VALUES = [
    None, True, False, 0, 1, 2, -1, 7, 8, 9, HUGE, -HUGE,
    "", "x", "y", "x y", "r0", "-", "\n",
    [], ["x"], ["x", "y"], [["x"], []], [("x",), ()],
    (), ("x",), ("x", "y"), ("y", "x"), ("x", "x"), ("q",), ("",), ("x ",), ("x\n",), ("X",),
    (None,), (True,), (False,), (0,), (1,), (["x"],), (("x",),), ({"x": 1},), ("x", 1), (1, "x"), ("x", None),
    ((), ()), (("x",), ()), ((), ("x",)), (("x",), ("x",)), (("x",), ("y",)), (("x",), (), ()), ((),),
    (["x"], ()), (("x",), []), (("x",), None), (None, ("x",)), ("x", "y", "z"), (("y", "x"), ()),
    ((), ("q",)), (((("x",),),),), [[[["x"]]]],
    {}, {"x": 1}, {"x": ("x",)}, {"x": {"y": [1, (2,)]}}, {0: ("x",), 1: ()},
]


class PromiseCase(unittest.TestCase):
    """A test case with checks of errors and of arguments."""

    def refused(self, error, attribute, value, call, *args, **named):
        """Check that the call raises just this error, that it carries this value, and that no argument changed."""
        before = copy.deepcopy((args, named))
        with self.assertRaises(FactorError) as caught:
            call(*args, **named)
        self.assertIs(type(caught.exception), error)
        held = getattr(caught.exception, attribute)
        self.same(held, value)
        self.same((args, named), before)
        return held

    def given(self, call, *args, **named):
        """Return what the call gives, and check that it changed no argument."""
        before = copy.deepcopy((args, named))
        result = call(*args, **named)
        self.same((args, named), before)
        return result

    def same(self, found, wanted):
        """Check equality, and that True is not taken for 1, nor a list for a tuple, at any depth."""
        self.assertIs(type(found), type(wanted))
        if isinstance(wanted, (list, tuple)):
            self.assertEqual(len(found), len(wanted))
            for one, other in zip(found, wanted):
                self.same(one, other)
        elif isinstance(wanted, dict):
            self.same(sorted(found, key=repr), sorted(wanted, key=repr))
            for key in wanted:
                self.same(found[key], wanted[key])
        elif isinstance(wanted, Verdict):
            self.same((found.kinds, found.papers), (wanted.kinds, wanted.papers))
        else:
            self.assertTrue(found == wanted)
