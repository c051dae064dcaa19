"""What several tests share: strict comparing, any values, rows of examples."""

import copy

from drawnturns import errors

FIELDS = {
    "Unfit": (),
    "BadPosition": ("error",),
    "BadScore": ("error",),
    "BadDraws": ("error",),
    "BadText": ("place",),
    "BadLog": ("place",),
    "TooMany": ("limit",),
    "TooManyEdits": (),
    "NothingToUndo": (),
}


def same(one, other):
    """Whether two values are equal, and of the same classes all through."""
    if type(one) is not type(other):
        return False
    if isinstance(one, (tuple, list)):
        return len(one) == len(other) and all(same(a, b) for a, b in zip(one, other))
    if isinstance(one, dict):
        return same(list(one.items()), list(other.items()))
    return one == other


def fields_of(error):
    """The class and the fields of an error of the package."""
    name = type(error).__name__
    return (type(error), tuple(getattr(error, field) for field in FIELDS[name]))


def nested(deep, inner=()):
    """A tuple in a tuple, so many deep."""
    value = inner
    for _ in range(deep):
        value = (value,)
    return value


def any_values():
    """New values of all kinds that the document calls any value."""
    great = 10 ** 400 - 1
    return [
        None, True, False, 0, 1, -1, 2, 3, 7, 9, 10, 11, great, -great, 2 ** 63, -(2 ** 64),
        "", " ", "0", "1", "A", "-", "None", "\n", "A\nB", "cell", "x" * 20000, "\n" * 300,
        [], [0], [1, 0], [[], []], [(), ()], ["cell", 0], [None] * 50, [[[[[]]]]],
        {}, {0: 1}, {"cell": 0}, {1: (), 0: ()}, {(): []}, {(1, 0): (None,)}, {None: {True: {}}},
        (), (0,), (1,), (None,), (True,), ("",), ("cell",), (0, 1), (1, 0), (True, False), (None, None),
        ((), ()), ([], []), ((), []), ([], ()), ((), (), ()), (((), ()), ((), ())), ((0,), (0,)), ((1,), (1,)),
        ((True,), (True,)), ((0,), (False,)), ((great,), (great,)), ({}, {}), ("", ""), ("A", ("A",)),
        (1,) * 4000, ((0,) * 1000, (0,) * 1000), nested(20), nested(19, 1), nested(19, "cell"),
    ]


class Checks:
    """To be mixed into test cases: any values go in, and come out unchanged."""

    def with_any_values(self, check):
        """Call check with each of the any values; none may be changed by it."""
        for value in any_values():
            kept = copy.deepcopy(value)
            with self.subTest(value=repr(value)[:60]):
                check(value)
                self.assertTrue(same(value, kept), "it was changed")

    def assert_same(self, got, wanted):
        """The values are equal, and of the same classes all through."""
        self.assertTrue(same(got, wanted), f"{got!r:.300} is not {wanted!r:.300}")

    def assert_raises(self, wanted, call, *given, **named):
        """The call raises an error of wanted's class, with its fields."""
        with self.assertRaises(errors.TurnError) as caught:
            call(*given, **named)
        got = caught.exception
        self.assertTrue(same_error(got, wanted), f"{got!r:.300} is not {wanted!r:.300}")


def rows_of(text):
    """The rows of a text of examples: what is called, and what is to come, or None."""
    rows = []
    for line in text.splitlines():
        if line.startswith(">>> "):
            rows.append((line[4:], None))
        elif line.strip():
            rows[-1] = (rows[-1][0], line)
    return rows


def run_rows(case, text):
    """Run the rows of a text one behind another, in one space of names."""
    space = {}
    for source, due in rows_of(text):
        with case.subTest(row=source):
            if due is None:
                exec(source, space)
            elif due.startswith("raises "):
                wanted = eval(due[len("raises "):], dict(vars(errors)))
                case.assert_raises(wanted, eval, source, space)
            else:
                case.assert_same(eval(source, space), eval(due))


def same_error(error, wanted):
    """Whether two errors are of one class and have equal fields, of the same classes."""
    name, fields = fields_of(error)
    wanted_name, wanted_fields = fields_of(wanted)
    return name is wanted_name and same(fields, wanted_fields)
