"""What [0.9] says of each small class of a result."""

from tests.makers import JUNK, SQUARE, patch


class Other:
    """Has all attributes, but is of another class."""

    def __init__(self, **given):
        vars(self).update(given)


def check_result(test, kind, *names):
    """A result keeps its arguments just as they are, checks nothing, and is equal where all of them are."""
    given = [[name, SQUARE] for name in names]
    told = kind(**dict(zip(names, given)))
    test.assertTrue(all(getattr(told, name) is thing for name, thing in zip(names, given)))
    test.assertTrue(told == kind(*[[name, patch(*((0, 0), (2, 0), (2, 2), (0, 2)))] for name in names]))
    test.assertFalse(told != kind(*given))
    for k in range(len(names)):
        for thing in (None, given[k] + [1], tuple(given[k])):
            unlike = kind(*given[:k], thing, *given[k + 1:])
            test.assertFalse(told == unlike)
            test.assertTrue(told != unlike)
    for thing in JUNK + [tuple(given), given[0], Other(**dict(zip(names, given)))]:
        test.assertFalse(told == thing)
        test.assertTrue(told != thing)
        kept = kind(*[thing] * len(names))
        test.assertTrue(all(getattr(kept, name) is thing for name in names))


def check_errors(test, rows):
    """Each row has a call, an error and what its attributes are; no call raises anything else."""
    for call, error, *attributes in rows:
        with test.assertRaises(error) as caught:
            call()
        test.assertIs(type(caught.exception), error)
        test.assertEqual(list(vars(caught.exception).values()), attributes)
