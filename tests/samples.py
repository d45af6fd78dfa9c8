"""What the tests share: rows of examples, and values of all kinds."""

import copy

from onlyhigher import errors


def nested(deep):
    value = ()
    for _ in range(deep):
        value = (value,)
    return value


# Values of the kinds that "any value" names, none of them a value, a card, a code or a text.
ODD_VALUES = [
    None, True, False, -1, 1000, 10 ** 399, -(10 ** 399), "", "Up", "a b", "a\n", "0", "ninechars", "x" * 20000,
    (), [], {}, [0], [1, 2], {"a": 1}, {1: (2,)}, (True,), (None,), ([],), ({},), ((),), (-1,), (1000,),
    nested(20), ("",), (0,) * 4000, [[0, [1]], {"b": [()]}],
]


def same(one, other):
    """Equal and of the same kinds throughout: True is not 1 here."""
    return repr(one) == repr(other)


def check_error(case, expected, call, *args, **names):
    """The call raises an error of just the class of expected that keeps just the same."""
    with case.assertRaises(errors.HigherError) as caught:
        call(*args, **names)
    case.assertIs(caught.exception.__class__, expected.__class__)
    case.assertEqual(repr(vars(caught.exception)), repr(vars(expected)))
    return caught.exception


def check_given(case, kind, given, call, *args, **names):
    """The call raises an error of this kind, which keeps the very object that was handed in."""
    with case.assertRaises(errors.HigherError) as caught:
        call(*args, **names)
    case.assertIs(caught.exception.__class__, kind)
    case.assertIs(caught.exception.given, given)


def check_kept(case, call, *args):
    """The call leaves its arguments as they are, and an equal call gets an equal answer."""
    before = copy.deepcopy(args)

    def answer():
        try:
            return repr(call(*args))
        except errors.HigherError as error:
            return repr((error.__class__.__name__, vars(error)))

    first = answer()
    case.assertEqual(repr(args), repr(before))
    case.assertEqual(answer(), first)


def run_examples(case, text, names):
    """Run the rows with ">>>", and compare each answer or error with the row behind."""
    rows = [row.strip() for row in text.strip().splitlines()] + [""]
    for row, behind in zip(rows, rows[1:]):
        if not row.startswith(">>> "):
            continue
        source = row[4:]
        with case.subTest(source):
            if not behind or behind.startswith(">>> "):
                exec(source, names)
            elif behind.startswith("raises "):
                expected = eval(behind[len("raises "):], dict(vars(errors)))
                check_error(case, expected, eval, source, names)
            else:
                case.assertEqual(repr(eval(source, names)), behind)
