"""What all functions of volumes and transfers have to raise, in which order, and that their arguments stay the same."""

from stirred.errors import InvalidTransfersError, InvalidVolumesError, TooMuchError
from tests.values import FAR_TRANSFERS, T, TOO_MUCH, V, WRONG_TRANSFERS, WRONG_VOLUMES, frozen


def check_error(case, error, function, *arguments):
    """Let a test fail unless the call raises an error of just this class and changes nothing; return the error."""
    before = frozen(arguments)
    with case.subTest(str(before)[:200], function=function.__name__):
        with case.assertRaises(error) as caught:
            function(*arguments)
        case.assertIs(caught.exception.__class__, error)
        case.assertEqual(frozen(arguments), before)
        return caught.exception


def check_volumes(case, function, *more):
    """Let a test fail unless wrong volumes are refused ahead of everything else."""
    for volumes in WRONG_VOLUMES:
        for transfers in ([], T, [(0, 1, 10 ** 6)], [(0, 7, 1)], None, (0, 1, 1)):
            check_error(case, InvalidVolumesError, function, volumes, transfers, *more)


def check_transfers(case, function, *more):
    """Let a test fail unless wrong transfers are refused, ahead of those that take too much."""
    for transfers in WRONG_TRANSFERS + FAR_TRANSFERS:
        check_error(case, InvalidTransfersError, function, V, transfers, *more)
    check_error(case, InvalidTransfersError, function, [5], [(0, 1, 1)], *more)
    check_error(case, InvalidTransfersError, function, [2] * 7, [(0, 7, 1)], *more)
    check_error(case, InvalidTransfersError, function, [2] * 7, [(7, 0, 1)], *more)
    check_error(case, InvalidTransfersError, function, V, [(0, 1, 3), (0, 0, 1)], *more)


def check_too_much(case, function, *more):
    """Let a test fail unless the first transfer that takes too much is told."""
    for transfers, index in TOO_MUCH:
        error = check_error(case, TooMuchError, function, V, transfers, *more)
        case.assertEqual((error.index, error.index.__class__), (index, int))


def check_faults(case, function, *more):
    check_volumes(case, function, *more)
    check_transfers(case, function, *more)
    check_too_much(case, function, *more)


def stays(case, function, *arguments):
    """Let a test fail if the call changes its arguments; return its result."""
    before = frozen(arguments)
    result = function(*arguments)
    case.assertEqual(frozen(arguments), before)
    return result
