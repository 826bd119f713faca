"""Points 22 and 23: labs that are poured call by call, and their kinds."""

import unittest

from stirred.errors import (EmptyHistoryError, FullError, InvalidGroupError, InvalidNumberError,
                            InvalidTransfersError, InvalidVesselError, InvalidVolumesError, OverfullError,
                            SealedError, StirError, TooMuchError)
from stirred.factors import factor_of
from stirred.labs import CappedLab, CappedSealedLab, Lab, SealedLab
from stirred.mixtures import Mixture
from stirred.ratios import Ratio, is_ratio
from stirred.vessels import contents_after, volumes_after
from tests.bench import CAP, KINDS, WRONG_POURS, Bench, some_bench, some_transfer, told_by, told_by_bench
from tests.faults import check_error
from tests.model import ALL, GREATEST, LONGEST, MILLION, Numbers
from tests.values import NO_LISTS, NOT_INTEGERS, Anything, ListBelow, T, V, WRONG_VOLUMES, frozen, nested, pair

WRONG_TRIED = NO_LISTS + [
    (), (0,), (0, 1), (0, 1, 1, 1), [0, 1, 1], [(0, 1, 1)], ((0, 1, 1),), "0>1:1", "011", {0, 1, 2}, {0: 1, 1: 1, 2: 1},
    nested(20), nested(5000)] + WRONG_POURS

WRONG_CAPS = NOT_INTEGERS + [2, 1, 0, -1, CAP + 1, 10 ** 30, -10 ** 30, None]

WRONG_SEALED = NO_LISTS + [
    {0: 1}, (0,), (0, 1), {0}, "0", [2], [0, 2], [-1], [0, 0], [1, 1], [0, 1, 0], [0] * 400, [7], [8], [10 ** 30],
    [[0]], [(0,)], [0, [1]], [None], ["0"], [Anything()], ListBelow([0]), nested(20), nested(5000), [True], [False],
    [0, True], [False, 1], [1, False]] + [[value] for value in NOT_INTEGERS]


class Making(unittest.TestCase):
    def test_a_lab(self):
        for volumes in ([1], [3, 2], [MILLION] * 8, [1] * 8, list(range(1, 9))):
            lab = Lab(volumes)
            self.assertEqual(told_by(lab), told_by_bench(Bench(volumes)))
            self.assertEqual((len(lab), lab.done, lab.factor), (0, [], Ratio(1)))

    def test_wrong_volumes(self):
        for volumes in WRONG_VOLUMES:
            check_error(self, InvalidVolumesError, Lab, volumes)
            for cap in (5, None, CAP, -1):
                check_error(self, InvalidVolumesError, CappedLab, volumes, cap)
            for sealed in ([], [0], None, [True]):
                check_error(self, InvalidVolumesError, SealedLab, volumes, sealed)
                check_error(self, InvalidVolumesError, CappedSealedLab, volumes, CAP, sealed)
                check_error(self, InvalidVolumesError, CappedSealedLab, volumes, None, sealed)

    def test_caps(self):
        for volumes in ([1], [3, 2], [2, 3], [5, 9, 1], [MILLION, 2], [1] * 8):
            greatest = max(volumes)
            for cap in (greatest, greatest + 1, 10 ** 6, 10 ** 7 - 1, 10 ** 7):
                self.assertEqual(CappedLab(volumes, cap).described(), [f"vessels {len(volumes)}", f"cap {cap}"])
                self.assertEqual(CappedSealedLab(volumes, cap, []).described()[1], f"cap {cap}")
            for cap in (greatest - 1, 0, -1, 10 ** 7 + 1):
                check_error(self, InvalidNumberError, CappedLab, volumes, cap)
                check_error(self, InvalidNumberError, CappedSealedLab, volumes, cap, [])

    def test_wrong_caps(self):
        for cap in WRONG_CAPS:
            check_error(self, InvalidNumberError, CappedLab, V, cap)
            for sealed in ([], [0], None, [2], [True]):
                check_error(self, InvalidNumberError, CappedSealedLab, V, cap, sealed)
        for cap in (True, False):
            check_error(self, InvalidNumberError, CappedLab, [1], cap)

    def test_sealed(self):
        for sealed in ([], [0], [1], [0, 1], [1, 0]):
            self.assertEqual(SealedLab(V, sealed).described(), ["vessels 2", f"sealed {len(sealed)}"])
            self.assertEqual(CappedSealedLab(V, 5, sealed).described(), ["vessels 2", "cap 5", f"sealed {len(sealed)}"])
        self.assertEqual(SealedLab([2] * 8, [7, 0, 3]).described(), ["vessels 8", "sealed 3"])
        self.assertEqual(SealedLab([2] * 8, list(range(8))).described(), ["vessels 8", "sealed 8"])

    def test_wrong_sealed(self):
        for sealed in WRONG_SEALED:
            check_error(self, InvalidGroupError, SealedLab, V, sealed)
            check_error(self, InvalidGroupError, CappedSealedLab, V, 5, sealed)
        check_error(self, InvalidGroupError, SealedLab, [5], [1])
        check_error(self, InvalidGroupError, SealedLab, [5] * 8, [8])

    def test_kinds(self):
        for kind in (CappedLab, SealedLab, CappedSealedLab):
            self.assertTrue(issubclass(kind, Lab))
        self.assertTrue(issubclass(CappedSealedLab, CappedLab) and issubclass(CappedSealedLab, SealedLab))
        self.assertFalse(issubclass(CappedLab, SealedLab) or issubclass(SealedLab, CappedLab))
        for make, kind in zip(KINDS, (Lab, CappedLab, SealedLab, CappedSealedLab)):
            self.assertIs(make().__class__, kind)

    def test_the_most(self):
        for kind in (Lab, CappedLab, SealedLab, CappedSealedLab):
            self.assertEqual((kind.MOST, kind.MOST.__class__), (24, int))
        self.assertEqual(Lab([3]).MOST, 24)

    def test_described(self):
        self.assertEqual(Lab([3]).described(), ["vessels 1"])
        self.assertEqual(Lab([3] * 8).described(), ["vessels 8"])
        self.assertEqual(CappedLab([3, 2], 5).described(), ["vessels 2", "cap 5"])
        self.assertEqual(CappedSealedLab([3, 2, 1], 5, [2]).described(), ["vessels 3", "cap 5", "sealed 1"])

    def test_arguments_by_name(self):
        self.assertEqual(Lab(volumes=[3, 2]).volumes, [3, 2])
        self.assertEqual(CappedLab(cap=5, volumes=[3, 2]).described(), ["vessels 2", "cap 5"])
        self.assertEqual(SealedLab(sealed=[1], volumes=[3, 2]).described(), ["vessels 2", "sealed 1"])
        lab = CappedSealedLab(sealed=[1, 0], cap=7, volumes=[3, 2])
        self.assertEqual(lab.described(), ["vessels 2", "cap 7", "sealed 2"])

    def test_lists_that_the_caller_changes(self):
        volumes, sealed = [3, 2, 2], [2]
        labs = [Lab(volumes), CappedLab(volumes, 5), SealedLab(volumes, sealed), CappedSealedLab(volumes, 5, sealed)]
        before = [told_by(lab) for lab in labs]
        volumes[0] = 9
        volumes.pop()
        sealed[0] = 0
        sealed.append(1)
        self.assertEqual([told_by(lab) for lab in labs], before)
        for lab in labs:
            self.assertEqual(lab.pour(0, 1, 1), 3)
        for lab in labs[2:]:
            check_error(self, SealedError, lab.pour, 1, 2, 1)


class Pouring(unittest.TestCase):
    def test_of_the_document(self):
        lab = Lab([3, 2])
        self.assertEqual([lab.pour(0, 1, 1), lab.pour(1, 0, 1), lab.factor, lab.tried((0, 1, 2))],
                         [3, 3, Ratio(4, 9), [1, 4]])
        self.assertEqual(lab.holds(0).share_of(1), Ratio(2, 9))
        self.assertEqual([lab.undo(), lab.volumes, lab.done, len(lab)], [None, [2, 3], [(0, 1, 1)], 1])

    def test_what_it_tells_after_each_call(self):
        for volumes, transfers in ALL[::5]:
            lab, bench = Lab(volumes), Bench(volumes)
            for giver, taker, amount in transfers:
                bench.done.append((giver, taker, amount))
                self.assertEqual(lab.pour(giver, taker, amount), bench.volumes()[taker])
                self.assertEqual(told_by(lab), told_by_bench(bench))
            while bench.done:
                bench.done.pop()
                self.assertIs(lab.undo(), None)
                self.assertEqual(told_by(lab), told_by_bench(bench))

    def test_the_functions_tell_the_same(self):
        for volumes, transfers in ALL:
            lab = Lab(volumes)
            for transfer in transfers:
                lab.pour(*transfer)
            self.assertEqual([lab.first_volumes, lab.volumes], [volumes, volumes_after(volumes, transfers)])
            self.assertEqual([lab.factor, lab.done], [factor_of(volumes, transfers), transfers])
            for vessel, row in enumerate(contents_after(volumes, transfers)):
                held = lab.holds(vessel)
                self.assertEqual(held, Mixture({k: amount for k, amount in enumerate(row) if amount != Ratio(0)}))
                self.assertEqual(held.volume, Ratio(lab.volumes[vessel]))

    def test_kinds_of_what_it_tells(self):
        lab = Lab([3, 2])
        self.assertEqual([lab.pour(0, 1, 1).__class__, lab.volumes.__class__, lab.done.__class__], [int, list, list])
        self.assertEqual([item.__class__ for item in lab.done], [tuple])
        self.assertIs(is_ratio(lab.factor), True)
        self.assertIs(lab.holds(0).__class__, Mixture)
        self.assertEqual([lab.described().__class__, lab.tried().__class__, len(lab).__class__], [list, list, int])

    def test_pour_by_name(self):
        lab = Lab([3, 2])
        self.assertEqual(lab.pour(amount=1, taker=1, giver=0), 3)
        self.assertEqual(lab.holds(vessel=1).substances, [0, 1])

    def test_wrong_transfers(self):
        for make in KINDS:
            lab = make()
            lab.pour(0, 1, 1)
            before = told_by(lab)
            for arguments in WRONG_POURS:
                check_error(self, InvalidTransfersError, lab.pour, *arguments)
            self.assertEqual(told_by(lab), before)

    def test_a_single_vessel(self):
        for arguments in ((0, 1, 1), (1, 0, 1), (0, 0, 1)):
            check_error(self, InvalidTransfersError, Lab([5]).pour, *arguments)

    def test_too_much(self):
        for make in KINDS:
            lab = make()
            for done in range(24):
                for arguments in ((0, 1, lab.volumes[0]), (1, 0, lab.volumes[1]), (0, 1, MILLION), (1, 0, 77)):
                    before = told_by(lab)
                    error = check_error(self, TooMuchError, lab.pour, *arguments)
                    self.assertEqual((error.index, error.index.__class__), (done, int))
                    self.assertEqual(told_by(lab), before)
                lab.pour(done % 2, 1 - done % 2, 1)

    def test_the_index_counts_what_is_not_reverted(self):
        lab = Lab([3, 2])
        for _ in range(5):
            lab.pour(0, 1, 1)
            lab.pour(1, 0, 1)
            lab.undo()
            self.assertEqual(check_error(self, TooMuchError, lab.pour, 0, 1, 2).index, len(lab))
            lab.undo()
            self.assertEqual(check_error(self, TooMuchError, lab.pour, 0, 1, 3).index, 0)

    def test_one_drop_less_than_all(self):
        lab = Lab([MILLION, 1])
        self.assertEqual([lab.pour(0, 1, 999999), lab.volumes], [MILLION, [1, MILLION]])
        check_error(self, TooMuchError, lab.pour, 0, 1, 1)
        self.assertEqual(lab.pour(1, 0, 999999), MILLION)

    def test_full(self):
        for make in KINDS:
            lab = make()
            for done in range(24):
                lab.pour(done % 2, 1 - done % 2, 1)
            before = told_by(lab)
            self.assertEqual(len(lab), 24)
            check_error(self, FullError, lab.pour, 0, 1, 1)
            check_error(self, FullError, lab.pour, 1, 0, 1)
            # What is wrong or too much is refused ahead of that.
            self.assertEqual(check_error(self, TooMuchError, lab.pour, 0, 1, 3).index, 24)
            check_error(self, InvalidTransfersError, lab.pour, 0, 2, 1)
            self.assertEqual(told_by(lab), before)
            lab.undo()
            self.assertEqual(lab.pour(1, 0, 1), 3)
            check_error(self, FullError, lab.pour, 0, 1, 1)
            lab.undo()
            lab.undo()
            self.assertEqual([lab.pour(1, 0, 1), lab.pour(0, 1, 3), len(lab)], [4, 4, 24])

    def test_refusals_of_the_kinds_come_ahead_of_full(self):
        capped, sealed = CappedLab([3, 2, 2], 3), CappedSealedLab([3, 2, 2], 3, [2])
        for lab in (capped, sealed):
            for done in range(24):
                lab.pour(done % 2, 1 - done % 2, 1)
            check_error(self, OverfullError, lab.pour, 1, 0, 1)
            check_error(self, FullError, lab.pour, 0, 1, 1)
        check_error(self, SealedError, sealed.pour, 0, 2, 1)
        check_error(self, FullError, capped.pour, 0, 2, 1)


class Undoing(unittest.TestCase):
    def test_nothing_to_revert(self):
        for make in KINDS:
            lab = make()
            before = told_by(lab)
            for _ in range(3):
                check_error(self, EmptyHistoryError, lab.undo)
            self.assertEqual(told_by(lab), before)
            lab.pour(0, 1, 1)
            lab.undo()
            check_error(self, EmptyHistoryError, lab.undo)
            self.assertEqual(told_by(lab), before)

    def test_the_last_one_that_is_not_reverted(self):
        lab = Lab([9, 9])
        for amount in (1, 2, 3):
            lab.pour(0, 1, amount)
        lab.undo()
        lab.undo()
        lab.pour(1, 0, 4)
        self.assertEqual(lab.done, [(0, 1, 1), (1, 0, 4)])
        lab.undo()
        self.assertEqual(lab.done, [(0, 1, 1)])
        lab.undo()
        self.assertEqual([lab.done, lab.volumes, lab.factor], [[], [9, 9], Ratio(1)])


class Holding(unittest.TestCase):
    def test_at_first(self):
        for vessel, volume in enumerate([3, 2, 7]):
            self.assertEqual(Lab([3, 2, 7]).holds(vessel), Mixture({vessel: Ratio(volume)}))

    def test_no_amounts_of_0(self):
        lab = Lab([2, 2, 2])
        lab.pour(0, 1, 1)
        self.assertEqual([lab.holds(vessel).substances for vessel in range(3)], [[0], [0, 1], [2]])
        self.assertEqual([len(lab.holds(vessel)) for vessel in range(3)], [1, 2, 1])

    def test_wrong_vessels(self):
        for vessel in NOT_INTEGERS + [-1, 2, 3, 7, 8, 10 ** 30]:
            for make in KINDS:
                check_error(self, InvalidVesselError, make().holds, vessel)
        check_error(self, InvalidVesselError, Lab([2] * 8).holds, 8)
        check_error(self, InvalidVesselError, Lab([2]).holds, 1)


class Trying(unittest.TestCase):
    def test_none(self):
        lab = Lab([3, 2])
        self.assertEqual(lab.tried(), [3, 2])
        lab.pour(0, 1, 1)
        self.assertEqual(lab.tried(), [2, 3])

    def test_up_to_twenty(self):
        for volumes, transfers in ALL:
            for cut in (0, len(transfers) // 2, max(len(transfers) - 20, 0)):
                lab = Lab(volumes)
                for transfer in transfers[:cut]:
                    lab.pour(*transfer)
                before = told_by(lab)
                more = transfers[cut:cut + 20]
                self.assertEqual(lab.tried(*more), volumes_after(volumes, transfers[:cut + 20]))
                self.assertEqual(told_by(lab), before)
                self.assertEqual(lab.volumes, volumes_after(volumes, transfers[:cut]))

    def test_any_values(self):
        for make in KINDS:
            lab = make()
            lab.pour(0, 1, 1)
            before = told_by(lab)
            for value in WRONG_TRIED:
                check_error(self, InvalidTransfersError, lab.tried, value)
                check_error(self, InvalidTransfersError, lab.tried, (1, 0, 1), value)
                check_error(self, InvalidTransfersError, lab.tried, value, (0, 1, 9))
            self.assertEqual(told_by(lab), before)

    def test_the_error_of_the_first_one_that_raises_one(self):
        lab = Lab([3, 2])
        for transfers, error in [([(0, 1, 1), (0, 1, 2), (0, 0, 1)], TooMuchError),
                                 ([(0, 1, 1), (0, 0, 1), (0, 1, 2)], InvalidTransfersError),
                                 ([None, (0, 1, 9)], InvalidTransfersError), ([(0, 1, 9), None], TooMuchError)]:
            check_error(self, error, lab.tried, *transfers)

    def test_the_index_counts_the_tried_ones_ahead(self):
        for done in range(5):
            for ahead in range(8):
                lab = Lab([3, 2])
                for k in range(done):
                    lab.pour(k % 2, 1 - k % 2, 1)
                more = [(k % 2, 1 - k % 2, 1) for k in range(done, done + ahead)]
                error = check_error(self, TooMuchError, lab.tried, *more, (0, 1, 4), (0, 1, 5))
                self.assertEqual(error.index, done + ahead)
                self.assertEqual(len(lab), done)

    def test_full(self):
        lab = Lab([3, 2])
        for done in range(10):
            lab.pour(done % 2, 1 - done % 2, 1)
        more = [(k % 2, 1 - k % 2, 1) for k in range(20)]
        self.assertEqual(lab.tried(*more[:14]), [3, 2])
        check_error(self, FullError, lab.tried, *more[:15])
        check_error(self, FullError, lab.tried, *more)
        error = check_error(self, TooMuchError, lab.tried, *more[:14], (0, 1, 3))
        self.assertEqual((error.index, len(lab)), (24, 10))
        check_error(self, InvalidTransfersError, lab.tried, *more[:14], None)

    def test_what_undo_reverts_stays(self):
        lab = Lab([9, 9])
        lab.pour(0, 1, 1)
        lab.pour(0, 1, 2)
        lab.undo()
        lab.pour(1, 0, 3)
        lab.tried((0, 1, 1), (1, 0, 2))
        check_error(self, TooMuchError, lab.tried, (0, 1, 1), (1, 0, 200))
        self.assertEqual(lab.done, [(0, 1, 1), (1, 0, 3)])
        lab.undo()
        self.assertEqual(lab.done, [(0, 1, 1)])

    def test_kinds(self):
        lab = CappedSealedLab([3, 2, 2], 4, [2])
        self.assertEqual(lab.tried((0, 1, 2)), [1, 4, 2])
        check_error(self, SealedError, lab.tried, (0, 1, 1), (1, 2, 1))
        lab = CappedSealedLab([3, 3, 2], 4, [2])
        check_error(self, OverfullError, lab.tried, (0, 1, 1), (1, 0, 2), (1, 0, 1), (2, 0, 1), (0, 0, 1))
        check_error(self, SealedError, lab.tried, (0, 1, 1), (1, 0, 2), (2, 0, 1), (1, 0, 1), (0, 0, 1))
        check_error(self, OverfullError, CappedLab([3, 2], 3).tried, (0, 1, 1), (1, 0, 2))


class Kinds(unittest.TestCase):
    def test_capped(self):
        lab = CappedLab([3, 2, 2], 4)
        self.assertEqual(lab.pour(0, 1, 2), 4)
        before = told_by(lab)
        check_error(self, OverfullError, lab.pour, 2, 1, 1)
        self.assertEqual(told_by(lab), before)
        self.assertEqual([lab.pour(1, 0, 3), lab.volumes], [4, [4, 1, 2]])
        check_error(self, OverfullError, lab.pour, 2, 0, 1)
        self.assertEqual(lab.pour(2, 1, 1), 2)

    def test_the_cap_itself_is_allowed(self):
        for cap in range(10, 19):
            lab = CappedLab([10, 10], cap)
            check_error(self, OverfullError, lab.pour, 0, 1, cap - 9)
            if cap > 10:
                self.assertEqual(lab.pour(0, 1, cap - 10), cap)

    def test_the_giver_needs_no_room(self):
        lab = CappedLab([5, 1], 5)
        self.assertEqual([lab.pour(0, 1, 4), lab.volumes], [5, [1, 5]])
        self.assertEqual([lab.pour(1, 0, 4), lab.volumes], [5, [5, 1]])

    def test_sealed(self):
        lab = SealedLab([3, 3, 3, 3], [1, 3])
        before = told_by(lab)
        for giver in range(4):
            for taker in range(4):
                if giver != taker and {giver, taker} & {1, 3}:
                    check_error(self, SealedError, lab.pour, giver, taker, 1)
        self.assertEqual(told_by(lab), before)
        self.assertEqual([lab.pour(0, 2, 1), lab.pour(2, 0, 3)], [4, 5])

    def test_none_or_all_sealed(self):
        self.assertEqual(SealedLab([3, 2], []).pour(0, 1, 1), 3)
        check_error(self, SealedError, SealedLab([3, 2], [1, 0]).pour, 0, 1, 1)

    def test_the_order_of_the_errors(self):
        lab = CappedSealedLab([3, 2, 2], 3, [2])
        check_error(self, InvalidTransfersError, lab.pour, 2, 2, 1)
        check_error(self, InvalidTransfersError, lab.pour, 2, 3, 9)
        self.assertEqual(check_error(self, TooMuchError, lab.pour, 2, 0, 2).index, 0)
        self.assertEqual(check_error(self, TooMuchError, lab.pour, 0, 2, 3).index, 0)
        check_error(self, SealedError, lab.pour, 2, 0, 1)
        check_error(self, SealedError, lab.pour, 0, 2, 2)
        check_error(self, OverfullError, lab.pour, 1, 0, 1)
        check_error(self, TooMuchError, CappedLab([3, 2], 3).pour, 1, 0, 2)
        self.assertEqual([lab.done, lab.volumes], [[], [3, 2, 2]])

    def test_both_is_each_of_both(self):
        lab = CappedSealedLab([3, 2, 2], 4, [2])
        self.assertEqual(lab.pour(0, 1, 2), 4)
        check_error(self, SealedError, lab.pour, 1, 2, 1)
        lab.undo()
        self.assertEqual(lab.pour(1, 0, 1), 4)
        check_error(self, SealedError, lab.pour, 2, 0, 1)


class Twins(unittest.TestCase):
    def test_the_same_in_all(self):
        for seed in range(24):
            bench, numbers = some_bench(seed), Numbers(seed)
            lab = bench.lab()
            for _ in range(12):
                transfer = some_transfer(numbers, bench)
                if bench.refusal(transfer) is None:
                    lab.pour(*transfer)
                    bench.done.append(transfer)
            other = lab.twin()
            self.assertIsNot(other, lab)
            self.assertIs(other.__class__, lab.__class__)
            self.assertEqual(told_by(other), told_by_bench(bench))
            self.assertTrue(other == lab)
            while bench.done:
                self.assertEqual([other.undo(), bench.done.pop() is None], [None, False])
                self.assertEqual(told_by(other), told_by_bench(bench))

    def test_caps_and_sealed_vessels(self):
        for make in (lambda: CappedLab([3, 2, 2], 4), lambda: CappedSealedLab([3, 2, 2], 4, [2])):
            lab = make().twin().twin()
            self.assertEqual(lab.pour(0, 1, 2), 4)
            lab.undo()
            lab.pour(1, 0, 1)
            self.assertEqual(lab.described(), make().described())
        check_error(self, OverfullError, CappedLab([3, 2], 3).twin().pour, 1, 0, 1)
        check_error(self, SealedError, SealedLab([3, 2], [1]).twin().pour, 0, 1, 1)
        check_error(self, SealedError, CappedSealedLab([3, 2, 2], 3, [2]).twin().pour, 2, 0, 1)
        check_error(self, OverfullError, CappedSealedLab([3, 2, 2], 3, [2]).twin().pour, 1, 0, 1)

    def test_no_effect_on_one_another(self):
        for make in KINDS:
            lab = make()
            lab.pour(0, 1, 1)
            other = lab.twin()
            other.pour(1, 0, 2)
            self.assertEqual([lab.volumes, lab.done, len(lab)], [[2, 3], [(0, 1, 1)], 1])
            lab.undo()
            self.assertEqual([other.volumes, len(other), len(lab)], [[4, 1], 2, 0])
            other.undo()
            other.undo()
            check_error(self, EmptyHistoryError, other.undo)
            lab.pour(1, 0, 1)
            self.assertEqual([lab.volumes, other.volumes, other.done], [[4, 1], [3, 2], []])

    def test_a_full_one(self):
        lab = Lab([3, 2])
        for done in range(24):
            lab.pour(done % 2, 1 - done % 2, 1)
        other = lab.twin()
        check_error(self, FullError, other.pour, 0, 1, 1)
        other.undo()
        other.pour(1, 0, 1)
        check_error(self, FullError, lab.pour, 0, 1, 1)


class Equal(unittest.TestCase):
    def same(self, one, other):
        self.assertIs(one == other, True)
        self.assertIs(other == one, True)
        self.assertIs(one != other, False)
        self.assertIs(other != one, False)

    def other(self, one, other):
        self.assertIs(one == other, False)
        self.assertIs(other == one, False)
        self.assertIs(one != other, True)
        self.assertIs(other != one, True)

    def test_equal_ones(self):
        for make in KINDS:
            one, other = make(), make()
            self.same(one, one)
            self.same(one, other)
            one.pour(0, 1, 1)
            self.other(one, other)
            other.pour(0, 1, 1)
            self.same(one, other)
            one.pour(1, 0, 1)
            one.undo()
            self.same(one, other)

    def test_other_volumes_at_first(self):
        for volumes in ([2, 3], [3, 2, 1], [3], [3, 3]):
            self.other(Lab([3, 2]), Lab(volumes))
        # The same volumes now, and the same contents as well.
        one, other = Lab([3, 2]), Lab([2, 3])
        one.pour(0, 1, 1)
        self.assertEqual(one.volumes, other.volumes)
        self.other(one, other)

    def test_other_transfers(self):
        one, other = Lab([9, 9, 9]), Lab([9, 9, 9])
        for lab, transfers in ((one, [(0, 1, 1), (0, 2, 1)]), (other, [(0, 2, 1), (0, 1, 1)])):
            for transfer in transfers:
                lab.pour(*transfer)
        self.assertEqual([one.volumes, one.factor], [other.volumes, other.factor])
        self.other(one, other)

    def test_caps_and_sealed_vessels_are_not_compared(self):
        self.same(CappedLab([3, 2], 5), CappedLab([3, 2], 9))
        self.same(SealedLab([3, 2], [0]), SealedLab([3, 2], []))
        self.same(CappedSealedLab([3, 2], 5, [0]), CappedSealedLab([3, 2], 9, [1, 0]))

    def test_other_classes(self):
        labs = [make() for make in KINDS]
        for at, one in enumerate(labs):
            for other in labs[:at] + labs[at + 1:]:
                self.other(one, other)

    def test_other_values(self):
        class Below(Lab):
            pass
        for make in KINDS:
            for value in NOT_INTEGERS + [0, 1, 2, [], [3, 2], (3, 2), {}, V, T, "3 2", Mixture({0: Ratio(3)}), Ratio(2),
                                         Lab, make().done, Below([3, 2]), nested(20)]:
                self.other(make(), value)
            self.assertIs(make() == Anything(), False)
            self.assertIs(make() != Anything(), True)


class Keeping(unittest.TestCase):
    def test_every_list_is_new(self):
        for make in KINDS:
            lab = make()
            lab.pour(0, 1, 1)
            before = told_by(lab)
            for read in (lambda: lab.first_volumes, lambda: lab.volumes, lambda: lab.done, lambda: lab.tried(),
                         lambda: lab.tried((1, 0, 1)), lab.described):
                found, again = read(), read()
                self.assertIsNot(found, again)
                found.reverse()
                found.append((1, 0, 1))
                found[0] = 77
                self.assertEqual(read(), again)
                found.clear()
                self.assertEqual(told_by(lab), before)
            lab.undo()
            self.assertEqual(lab.volumes, [3, 2])

    def test_what_was_returned_stays_the_same(self):
        lab = Lab([3, 2])
        lab.pour(0, 1, 1)
        kept = [lab.first_volumes, lab.volumes, lab.done, lab.tried((1, 0, 2)), lab.factor, lab.described()]
        held = pair(lab.holds(1).amount_of(0))
        mixture = lab.holds(1)
        wanted = frozen(kept)
        lab.pour(1, 0, 2)
        lab.undo()
        lab.undo()
        lab.pour(1, 0, 1)
        self.assertEqual(frozen(kept), wanted)
        self.assertEqual(pair(mixture.amount_of(0)), held)

    def test_no_error_changes_anything(self):
        for seed in range(12):
            bench, numbers = some_bench(seed), Numbers(seed + 50)
            lab = bench.lab()
            for _ in range(40):
                transfer = some_transfer(numbers, bench)
                before = lab.volumes, lab.done, lab.factor, lab.described(), len(lab)
                try:
                    lab.pour(*transfer)
                    bench.done.append(transfer)
                except StirError:
                    self.assertEqual((lab.volumes, lab.done, lab.factor, lab.described(), len(lab)), before)


class ManyCalls(unittest.TestCase):
    def check_pour(self, lab, bench, transfer):
        wanted, done = bench.refusal(transfer), len(bench.done)
        if wanted is None:
            bench.done.append(transfer)
            self.assertEqual(lab.pour(*transfer), bench.volumes()[transfer[1]])
            return
        with self.assertRaises(StirError) as caught:
            lab.pour(*transfer)
        self.assertEqual(caught.exception.__class__.__name__, wanted)
        if wanted == "TooMuchError":
            self.assertEqual(caught.exception.index, done)

    def check_tried(self, lab, bench, transfers):
        ahead = Bench(bench.first, bench.cap, bench.sealed)
        ahead.done = list(bench.done)
        wanted = None
        for transfer in transfers:
            wanted = ahead.refusal(transfer)
            if wanted is not None:
                break
            ahead.done.append(transfer)
        if wanted is None:
            self.assertEqual(lab.tried(*transfers), ahead.volumes())
            return
        with self.assertRaises(StirError) as caught:
            lab.tried(*transfers)
        self.assertEqual(caught.exception.__class__.__name__, wanted)
        if wanted == "TooMuchError":
            self.assertEqual(caught.exception.index, len(ahead.done))

    def check_undo(self, lab, bench):
        if bench.done:
            bench.done.pop()
            self.assertIs(lab.undo(), None)
        else:
            check_error(self, EmptyHistoryError, lab.undo)

    def test_300_calls(self):
        for seed in range(16):
            bench, numbers = some_bench(seed), Numbers(seed + 900)
            lab = bench.lab()
            for call in range(300):
                turn = numbers.below(10)
                if turn < 6:
                    self.check_pour(lab, bench, some_transfer(numbers, bench))
                elif turn < 8:
                    self.check_undo(lab, bench)
                elif turn < 9:
                    self.check_tried(lab, bench, [some_transfer(numbers, bench) for _ in range(numbers.below(6))])
                else:
                    lab = lab.twin()
                if call % 25 == 0:
                    self.assertEqual(told_by(lab), told_by_bench(bench))
                self.assertEqual([lab.done, lab.volumes], [bench.done, bench.volumes()])
            while bench.done:
                self.check_undo(lab, bench)
            self.assertEqual(told_by(lab), told_by_bench(bench))
            check_error(self, EmptyHistoryError, lab.undo)

    def test_many_undos_in_a_row(self):
        volumes, transfers = LONGEST[1]
        lab = Lab(volumes)
        for _ in range(6):
            for transfer in transfers:
                lab.pour(*transfer)
            check_error(self, FullError, lab.pour, *transfers[0])
            for _ in transfers:
                lab.undo()
            self.assertEqual([lab.volumes, lab.done, lab.factor], [volumes, [], Ratio(1)])

    def test_the_greatest_volumes(self):
        volumes, transfers = GREATEST
        lab, capped = Lab(volumes), CappedLab(volumes, CAP)
        for transfer in transfers:
            self.assertEqual(lab.pour(*transfer), capped.pour(*transfer))
        self.assertEqual(lab.volumes, capped.volumes)


if __name__ == "__main__":
    unittest.main()
