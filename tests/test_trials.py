"""Point 24: trials, by hand and by with, and the functions that do lists of transfers in one."""

import unittest

from stirred.errors import (EmptyHistoryError, FullError, InvalidTransfersError, NotStartedError, OverfullError,
                            SealedError, StartedError, StirError, TooMuchError)
from stirred.labs import CappedLab, CappedSealedLab, Lab, SealedLab
from stirred.trials import Trial, passed, volumes_in_trial
from stirred.vessels import volumes_after
from tests.bench import KINDS, WRONG_POURS, some_bench, some_transfer, told_by
from tests.faults import check_error, stays
from tests.model import ALL, LONGEST, Numbers
from tests.values import NO_LISTS, NOT_INTEGERS, Anything, ListBelow, T, frozen, nested

NO_TRIAL_LISTS = NO_LISTS + [[(0, 1, 1)] * 25, [None] * 25, [(0, 1, 1)] * 400, ((0, 1, 1),), ListBelow([(0, 1, 1)]),
                             {0: (0, 1, 1)}, "0>1:1", nested]

# No tuples of three: nothing of them is given to a lab.
NO_ITEMS = NO_LISTS + [
    (), (0,), (0, 1), (0, 1, 1, 1), [0, 1, 1], [(0, 1, 1)], "011", {0, 1, 2}, {0: 1, 1: 1, 2: 1}, Anything(),
    ListBelow([0, 1, 1]), nested(20), nested(5000)] + NOT_INTEGERS[:6]


class Stop(Exception):
    """An error that no part of the package raises."""


def poured(lab, *transfers):
    for transfer in transfers:
        lab.pour(*transfer)
    return lab


def some_labs():
    """Return labs of all kinds, each with some transfers of which some are reverted."""
    labs = []
    for make in KINDS:
        lab = poured(make(), (0, 1, 1), (1, 0, 2), (0, 1, 3))
        lab.undo()
        labs.append(lab)
    return labs + [make() for make in KINDS] + [poured(Lab([3, 2]), *(T * 12))]


class ByHand(unittest.TestCase):
    def test_of_the_document(self):
        lab = Lab([3, 2])
        trial = Trial(lab)
        self.assertEqual([trial.begin() == lab, lab.pour(0, 1, 2), trial.finish(), lab.volumes],
                         [True, 4, [(0, 1, 2)], [3, 2]])

    def test_begin_returns_the_lab(self):
        for lab in some_labs():
            trial = Trial(lab)
            self.assertIs(trial.begin(), lab)
            trial.finish()
            self.assertIs(trial.begin(), lab)

    def test_finish_returns_what_was_done_until_then(self):
        lab = poured(Lab([9, 9]), (0, 1, 1))
        trial = Trial(lab)
        trial.begin()
        poured(lab, (0, 1, 2), (1, 0, 3))
        found = trial.finish()
        self.assertEqual((found, found.__class__), ([(0, 1, 1), (0, 1, 2), (1, 0, 3)], list))
        self.assertEqual(lab.done, [(0, 1, 1)])
        found.clear()
        self.assertEqual(lab.done, [(0, 1, 1)])
        trial.begin()
        lab.undo()
        self.assertEqual([trial.finish(), lab.done], [[], [(0, 1, 1)]])
        trial.begin()
        self.assertEqual(trial.finish(), [(0, 1, 1)])

    def test_what_was_done_is_reverted(self):
        for lab in some_labs()[:8]:
            before = told_by(lab)
            trial = Trial(lab)
            trial.begin()
            while len(lab) < 24:
                lab.pour(len(lab) % 2, 1 - len(lab) % 2, 1)
            trial.finish()
            self.assertEqual(told_by(lab), before)

    def test_what_was_reverted_is_done_again(self):
        for lab in some_labs():
            before = told_by(lab)
            trial = Trial(lab)
            trial.begin()
            while lab.done:
                lab.undo()
            check_error(self, EmptyHistoryError, lab.undo)
            trial.finish()
            self.assertEqual(told_by(lab), before)

    def test_both(self):
        lab = poured(Lab([9, 9]), (0, 1, 1), (0, 1, 2), (1, 0, 3))
        before = told_by(lab)
        trial = Trial(lab)
        trial.begin()
        lab.undo()
        lab.undo()
        poured(lab, (1, 0, 7), (0, 1, 5), (0, 1, 4))
        lab.undo()
        self.assertEqual(trial.finish(), [(0, 1, 1), (1, 0, 7), (0, 1, 5)])
        self.assertEqual(told_by(lab), before)

    def test_what_undo_reverts_next(self):
        lab = poured(Lab([9, 9]), (0, 1, 1), (0, 1, 2), (1, 0, 3))
        trial = Trial(lab)
        trial.begin()
        lab.undo()
        poured(lab, (1, 0, 4))
        trial.finish()
        for done in ([(0, 1, 1), (0, 1, 2)], [(0, 1, 1)], []):
            lab.undo()
            self.assertEqual(lab.done, done)
        check_error(self, EmptyHistoryError, lab.undo)

    def test_a_full_lab(self):
        lab = poured(Lab([3, 2]), *(T * 12))
        trial = Trial(lab)
        trial.begin()
        check_error(self, FullError, lab.pour, 0, 1, 1)
        lab.undo()
        lab.undo()
        lab.pour(0, 1, 2)
        trial.finish()
        self.assertEqual(lab.done, T * 12)
        check_error(self, FullError, lab.pour, 0, 1, 1)

    def test_it_goes_on_afterwards(self):
        lab = poured(Lab([3, 2]), (0, 1, 1))
        trial = Trial(lab)
        trial.begin()
        lab.undo()
        trial.finish()
        self.assertEqual([lab.pour(1, 0, 2), lab.done], [4, [(0, 1, 1), (1, 0, 2)]])

    def test_a_twin_within_a_trial(self):
        lab = poured(Lab([3, 2]), (0, 1, 1))
        trial = Trial(lab)
        trial.begin()
        lab.pour(1, 0, 1)
        other = lab.twin()
        trial.finish()
        self.assertEqual([other.done, lab.done], [[(0, 1, 1), (1, 0, 1)], [(0, 1, 1)]])


class Beginning(unittest.TestCase):
    def test_begun_twice(self):
        for lab in some_labs():
            trial = Trial(lab)
            for _ in range(3):
                trial.begin()
                check_error(self, StartedError, trial.begin)
                check_error(self, StartedError, trial.begin)
                trial.finish()

    def test_begun_by_with(self):
        lab = Lab([3, 2])
        trial = Trial(lab)
        with trial:
            check_error(self, StartedError, trial.begin)
            with self.assertRaises(StartedError):
                with trial:
                    self.fail("it has begun already")
            lab.pour(0, 1, 1)
        self.assertEqual(lab.done, [])
        self.assertIs(trial.begin(), lab)

    def test_begun_by_hand_and_then_by_with(self):
        lab = Lab([3, 2])
        trial = Trial(lab)
        trial.begin()
        lab.pour(0, 1, 1)
        with self.assertRaises(StartedError):
            with trial:
                self.fail("it has begun already")
        # The trial that has begun goes on.
        self.assertEqual(lab.done, [(0, 1, 1)])
        self.assertEqual([trial.finish(), lab.done], [[(0, 1, 1)], []])

    def test_not_begun(self):
        for lab in some_labs():
            before = told_by(lab)
            trial = Trial(lab)
            check_error(self, NotStartedError, trial.finish)
            check_error(self, NotStartedError, trial.finish)
            trial.begin()
            trial.finish()
            check_error(self, NotStartedError, trial.finish)
            with trial:
                pass
            check_error(self, NotStartedError, trial.finish)
            self.assertEqual(told_by(lab), before)

    def test_an_empty_history_is_a_beginning_too(self):
        trial = Trial(Lab([3, 2]))
        trial.begin()
        check_error(self, StartedError, trial.begin)
        self.assertEqual(trial.finish(), [])

    def test_a_failed_begin_changes_nothing(self):
        lab = poured(Lab([9, 9]), (0, 1, 1))
        trial = Trial(lab)
        trial.begin()
        lab.pour(0, 1, 2)
        check_error(self, StartedError, trial.begin)
        trial.finish()
        self.assertEqual(lab.done, [(0, 1, 1)])

    def test_again_and_again(self):
        lab = Lab([9, 9])
        trial = Trial(lab)
        for amount in range(1, 6):
            lab.pour(0, 1, 1)
            before = told_by(lab)
            trial.begin()
            poured(lab, (1, 0, amount))
            self.assertEqual(len(trial.finish()), amount + 1)
            self.assertEqual(told_by(lab), before)
            with trial as same:
                same.undo()
            self.assertEqual(told_by(lab), before)

    def test_the_argument_by_name(self):
        lab = Lab([3, 2])
        self.assertIs(Trial(lab=lab).begin(), lab)


class ByWith(unittest.TestCase):
    def test_it_gives_the_lab(self):
        for lab in some_labs():
            before = told_by(lab)
            with Trial(lab) as same:
                self.assertIs(same, lab)
                if lab.done:
                    same.undo()
                same.pour(0, 1, 1)
                self.assertNotEqual(told_by(lab), before)
            self.assertEqual(told_by(lab), before)

    def test_behind_an_error_which_goes_on(self):
        for lab in some_labs()[:8]:
            before = told_by(lab)
            for error in (Stop, KeyError, TooMuchError(3), StirError("x"), KeyboardInterrupt):
                with self.assertRaises(error if isinstance(error, type) else error.__class__) as caught:
                    with Trial(lab):
                        lab.pour(len(lab) % 2, 1 - len(lab) % 2, 1)
                        raise error
                if not isinstance(error, type):
                    self.assertIs(caught.exception, error)
                self.assertEqual(told_by(lab), before)

    def test_behind_an_error_of_the_lab(self):
        lab = poured(Lab([3, 2]), (0, 1, 1))
        for _ in range(2):
            with self.assertRaises(TooMuchError) as caught:
                with Trial(lab) as same:
                    same.pour(1, 0, 1)
                    same.pour(0, 1, 3)
            self.assertEqual([caught.exception.index, lab.done], [2, [(0, 1, 1)]])

    def test_left_by_return_and_break(self):
        lab = poured(Lab([9, 9]), (0, 1, 1))

        def first_of(amounts):
            with Trial(lab):
                for amount in amounts:
                    return lab.pour(0, 1, amount)

        self.assertEqual([first_of([2, 3]), lab.done], [12, [(0, 1, 1)]])
        for amount in (4, 5):
            with Trial(lab):
                lab.pour(0, 1, amount)
                if amount == 4:
                    break
        self.assertEqual(lab.done, [(0, 1, 1)])

    def test_an_error_leaves_a_trial_that_can_begin_again(self):
        lab = Lab([3, 2])
        trial = Trial(lab)
        for _ in range(3):
            with self.assertRaises(Stop):
                with trial:
                    lab.pour(0, 1, 1)
                    raise Stop
            self.assertEqual(lab.done, [])


class WithinOneAnother(unittest.TestCase):
    def test_by_with(self):
        lab = poured(Lab([9, 9]), (0, 1, 1))
        with Trial(lab):
            lab.pour(0, 1, 2)
            with Trial(lab) as same:
                same.undo()
                same.undo()
                same.pour(1, 0, 8)
                with Trial(lab):
                    lab.undo()
                self.assertEqual(lab.done, [(1, 0, 8)])
            self.assertEqual(lab.done, [(0, 1, 1), (0, 1, 2)])
            lab.undo()
        self.assertEqual(lab.done, [(0, 1, 1)])

    def test_by_hand(self):
        lab = poured(Lab([9, 9]), (0, 1, 1))
        outer, inner = Trial(lab), Trial(lab)
        outer.begin()
        lab.pour(0, 1, 2)
        inner.begin()
        lab.undo()
        lab.undo()
        self.assertEqual([inner.finish(), lab.done], [[], [(0, 1, 1), (0, 1, 2)]])
        inner.begin()
        lab.pour(0, 1, 3)
        self.assertEqual(inner.finish(), [(0, 1, 1), (0, 1, 2), (0, 1, 3)])
        self.assertEqual([outer.finish(), lab.done], [[(0, 1, 1), (0, 1, 2)], [(0, 1, 1)]])

    def test_mixed_and_behind_errors(self):
        lab = poured(Lab([9, 9]), (0, 1, 1))
        outer = Trial(lab)
        outer.begin()
        lab.undo()
        with self.assertRaises(Stop):
            with Trial(lab):
                lab.pour(1, 0, 3)
                raise Stop
        self.assertEqual([lab.done, outer.finish(), lab.done], [[], [], [(0, 1, 1)]])

    def test_trials_of_two_labs(self):
        one, other = Lab([9, 9]), Lab([9, 9])
        first, second = Trial(one), Trial(other)
        first.begin()
        second.begin()
        one.pour(0, 1, 1)
        other.pour(1, 0, 1)
        self.assertEqual([first.finish(), one.done, other.done], [[(0, 1, 1)], [], [(1, 0, 1)]])
        self.assertEqual([second.finish(), other.done], [[(1, 0, 1)], []])

    def test_many_deep(self):
        lab = Lab([50, 9])
        trials = [Trial(lab) for _ in range(20)]
        for trial in trials:
            trial.begin()
            lab.pour(0, 1, 1)
        for many, trial in reversed(list(enumerate(trials))):
            self.assertEqual(len(trial.finish()), many + 1)
            self.assertEqual(len(lab), many)


class VolumesInTrial(unittest.TestCase):
    def test_of_the_document(self):
        lab = Lab([3, 2])
        self.assertEqual([volumes_in_trial(lab, [(0, 1, 1), (1, 0, 2)]), len(lab)], [[4, 1], 0])

    def test_many(self):
        for volumes, transfers in ALL:
            lab = Lab(volumes)
            self.assertEqual(stays(self, volumes_in_trial, lab, transfers), volumes_after(volumes, transfers))
            self.assertEqual([lab.volumes, lab.done], [volumes, []])
            cut = len(transfers) // 2
            poured(lab, *transfers[:cut])
            self.assertEqual(volumes_in_trial(lab, transfers[cut:]), volumes_after(volumes, transfers))
            self.assertEqual(lab.done, transfers[:cut])

    def test_no_transfers(self):
        for lab in some_labs():
            before = told_by(lab)
            found = volumes_in_trial(lab, [])
            self.assertEqual((found, found.__class__), (lab.volumes, list))
            found.clear()
            self.assertEqual(told_by(lab), before)

    def test_24_transfers(self):
        lab = Lab([3, 2])
        self.assertEqual(volumes_in_trial(lab, T * 12), [3, 2])
        lab.pour(0, 1, 1)
        check_error(self, FullError, volumes_in_trial, lab, [(1, 0, 1), (0, 1, 1)] * 12)
        self.assertEqual(volumes_in_trial(lab, ([(1, 0, 1), (0, 1, 1)] * 12)[:23]), [3, 2])

    def test_no_lists(self):
        for lab in some_labs()[:8:3]:
            before = told_by(lab)
            for value in NO_TRIAL_LISTS:
                check_error(self, InvalidTransfersError, volumes_in_trial, lab, value)
                check_error(self, InvalidTransfersError, passed, lab, value)
            self.assertEqual(told_by(lab), before)

    def test_items_that_are_no_transfers(self):
        for make in KINDS:
            lab = poured(make(), (0, 1, 1))
            before = told_by(lab)
            for item in NO_ITEMS + WRONG_POURS:
                check_error(self, InvalidTransfersError, volumes_in_trial, lab, [item])
                check_error(self, InvalidTransfersError, volumes_in_trial, lab, [(1, 0, 1), item, (0, 1, 9)])
            self.assertEqual(told_by(lab), before)

    def test_the_error_of_the_first_one_that_cannot_be_done(self):
        lab = CappedSealedLab([3, 2, 2], 4, [2])
        for transfers, error in [([(0, 1, 1), (0, 1, 2), None], TooMuchError),
                                 ([None, (0, 1, 9)], InvalidTransfersError),
                                 ([(0, 1, 1), (0, 2, 1), (0, 1, 9)], SealedError),
                                 ([(0, 1, 1), (1, 0, 2), (1, 2, 1)], TooMuchError),
                                 ([(0, 1, 1), (0, 1, 1), (1, 0, 2), (0, 0, 1)], InvalidTransfersError)]:
            check_error(self, error, volumes_in_trial, lab, transfers)
            self.assertEqual(lab.done, [])
        check_error(self, OverfullError, volumes_in_trial, CappedLab([3, 2], 3), [(0, 1, 1), (1, 0, 2), None])

    def test_the_index_counts_what_was_done_before(self):
        for done in range(6):
            lab = poured(Lab([3, 2]), *(T * 3)[:done])
            for ahead in range(6):
                more = (T * 12)[done:done + ahead] + [(0, 1, 4), (0, 1, 5)]
                error = check_error(self, TooMuchError, volumes_in_trial, lab, more)
                self.assertEqual((error.index, len(lab)), (done + ahead, done))

    def test_within_a_trial(self):
        for error in (False, True):
            lab = poured(Lab([9, 9]), (0, 1, 1))
            with Trial(lab):
                lab.undo()
                lab.pour(1, 0, 3)
                if error:
                    check_error(self, TooMuchError, volumes_in_trial, lab, [(0, 1, 1), (0, 1, 99)])
                else:
                    self.assertEqual(volumes_in_trial(lab, [(0, 1, 1)]), [11, 7])
                self.assertEqual([lab.done, passed(lab, [(0, 1, 1), None])], [[(1, 0, 3)], 1])
                self.assertEqual(lab.done, [(1, 0, 3)])
            self.assertEqual(lab.done, [(0, 1, 1)])

    def test_sealed_labs(self):
        lab = SealedLab([3, 2, 2], [2])
        self.assertEqual(volumes_in_trial(lab, [(0, 1, 1)]), [2, 3, 2])
        check_error(self, SealedError, volumes_in_trial, lab, [(0, 1, 1), (2, 1, 1)])

    def test_arguments_by_name(self):
        lab = Lab([3, 2])
        self.assertEqual(volumes_in_trial(transfers=[(0, 1, 1)], lab=lab), [2, 3])
        self.assertEqual(passed(transfers=[(0, 1, 1)], lab=lab), 1)


class Passed(unittest.TestCase):
    def test_of_the_document(self):
        lab = Lab([3, 2])
        self.assertEqual([passed(lab, [(0, 1, 2), (0, 1, 1)]), len(lab)], [1, 0])

    def test_all_pass(self):
        for volumes, transfers in ALL:
            lab = Lab(volumes)
            found = stays(self, passed, lab, transfers)
            self.assertEqual((found, found.__class__), (len(transfers), int))
            self.assertEqual(lab.done, [])

    def test_until_one_raises_an_error(self):
        for make in KINDS:
            lab = poured(make(), (0, 1, 1))
            before = told_by(lab)
            for stop in NO_ITEMS + WRONG_POURS + [(0, 1, 77)]:
                self.assertEqual(passed(lab, [stop]), 0)
                self.assertEqual(passed(lab, [stop, (1, 0, 1)]), 0)
                self.assertEqual(passed(lab, [(1, 0, 1), stop, (0, 1, 1)]), 1)
                self.assertEqual(passed(lab, [(1, 0, 1), (0, 1, 1), stop]), 2)
            self.assertEqual(told_by(lab), before)

    def test_each_error_of_a_lab(self):
        self.assertEqual(passed(CappedLab([3, 2], 3), [(0, 1, 1), (1, 0, 2), (1, 0, 1)]), 1)
        self.assertEqual(passed(SealedLab([3, 2, 2], [2]), [(0, 1, 1), (0, 2, 1), (1, 0, 1)]), 1)
        self.assertEqual(passed(CappedSealedLab([3, 2, 2], 3, [2]), [(0, 2, 1)]), 0)
        self.assertEqual(passed(Lab([5]), [(0, 1, 1)]), 0)

    def test_until_the_lab_is_full(self):
        for done in range(0, 25, 4):
            lab = poured(Lab([3, 2]), *(T * 12)[:done])
            self.assertEqual(passed(lab, T * 12), 24 - done)
            self.assertEqual(lab.done, (T * 12)[:done])

    def test_none(self):
        for lab in some_labs():
            self.assertEqual(passed(lab, []), 0)

    def test_as_many_as_can_be_done(self):
        for seed in range(40):
            bench, numbers = some_bench(seed), Numbers(seed + 70)
            lab = bench.lab()
            transfers = [some_transfer(numbers, bench) for _ in range(24)]
            wanted = None
            for transfer in transfers:
                if bench.refusal(transfer) is not None:
                    wanted = bench.refusal(transfer)
                    break
                bench.done.append(transfer)
            self.assertEqual(stays(self, passed, lab, transfers), len(bench.done))
            if wanted is None:
                self.assertEqual(volumes_in_trial(lab, transfers), bench.volumes())
            else:
                with self.assertRaises(StirError) as caught:
                    volumes_in_trial(lab, transfers)
                self.assertEqual(caught.exception.__class__.__name__, wanted)
            self.assertEqual(lab.done, [])

    def test_another_error_goes_on(self):
        class Odd:
            first_volumes, history = [3, 2], ()

            def pour(self, giver, taker, amount):
                raise Stop

        with self.assertRaises(Stop):
            passed(Odd(), [(0, 1, 1)])


class ManyCalls(unittest.TestCase):
    def test_300_calls_with_trials_in_between(self):
        for seed in range(12):
            bench, numbers = some_bench(seed), Numbers(seed + 300)
            lab, open_ones = bench.lab(), []
            for _ in range(300):
                turn = numbers.below(10)
                transfer = some_transfer(numbers, bench)
                if turn < 5 and bench.refusal(transfer) is None:
                    lab.pour(*transfer)
                    bench.done.append(transfer)
                elif turn < 7 and bench.done:
                    lab.undo()
                    bench.done.pop()
                elif turn == 7 and len(open_ones) < 9:
                    open_ones.append((Trial(lab), list(bench.done)))
                    open_ones[-1][0].begin()
                elif turn == 8 and open_ones:
                    trial, kept = open_ones.pop()
                    self.assertEqual(trial.finish(), bench.done)
                    bench.done = list(kept)
                else:
                    self.assertEqual(passed(lab, [transfer]), int(bench.refusal(transfer) is None))
                self.assertEqual([lab.done, lab.volumes], [bench.done, bench.volumes()])
            for trial, kept in reversed(open_ones):
                trial.finish()
                self.assertEqual(lab.done, kept)
            while lab.done:
                lab.undo()
            check_error(self, EmptyHistoryError, lab.undo)
            self.assertEqual(frozen([lab.volumes, lab.factor]), frozen([bench.first, bench.lab().factor]))

    def test_trials_of_a_long_list(self):
        volumes, transfers = LONGEST[0]
        lab = Lab(volumes)
        for cut in range(25):
            with Trial(lab):
                poured(lab, *transfers[:cut])
                self.assertEqual(lab.volumes, volumes_after(volumes, transfers[:cut]))
            self.assertEqual(lab.volumes, volumes)


if __name__ == "__main__":
    unittest.main()
