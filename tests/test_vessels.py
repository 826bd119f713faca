"""Points 6 to 9 and 14: volumes, transfers, and what vessels hold behind these."""

import unittest

from stirred.ratios import Ratio, is_ratio
from stirred.vessels import (contents_after, is_possible, is_transfers, is_volumes, shares_after, volumes_after,
                             walk_contents)
from tests.faults import check_faults, check_transfers, check_volumes, stays
from tests.model import (ALL, GREATEST, LONGEST, MILLION, contents_behind, fractions_of, ratios_of, shares_behind,
                         volumes_behind)
from tests.values import FAR_TRANSFERS, T, TOO_MUCH, V, WRONG_TRANSFERS, WRONG_VOLUMES, frozen, lists_within, pair


def walked(volumes, transfers):
    return list(walk_contents(volumes, transfers))


def pure(volumes):
    return [[Ratio(volumes[k] if k == vessel else 0) for k in range(len(volumes))] for vessel in range(len(volumes))]


class Judging(unittest.TestCase):
    def test_volumes(self):
        for volumes in ([1], [MILLION], [3, 2], [1, MILLION], [MILLION, 1], [2, 2, 2], list(range(1, 9)), [1] * 8,
                        [MILLION] * 8, [5] * 7, [7, 8, 9, 10]):
            self.assertIs(stays(self, is_volumes, volumes), True, volumes)
        for many in range(12):
            self.assertIs(is_volumes([4] * many), 1 <= many <= 8)

    def test_values_that_are_no_volumes(self):
        for value in WRONG_VOLUMES:
            self.assertIs(stays(self, is_volumes, value), False)
        self.assertIs(is_volumes(T), False)

    def test_transfers(self):
        for transfers in ([], [(0, 1, 1)], [(0, 7, MILLION)], [(7, 0, 1)], [(7, 6, 999999)], T, T * 12,
                          [(0, 1, 1)] * 24):
            self.assertIs(stays(self, is_transfers, transfers), True, transfers)
        for many in range(30):
            self.assertIs(is_transfers([(3, 4, 5)] * many), many <= 24)
        for giver in range(-2, 11):
            for taker in range(-2, 11):
                wanted = giver != taker and 0 <= giver <= 7 and 0 <= taker <= 7
                self.assertIs(is_transfers([(giver, taker, 2)]), wanted)
                self.assertIs(is_transfers([(0, 1, 1), (giver, taker, 2)]), wanted)

    def test_values_that_are_no_transfers(self):
        for value in WRONG_TRANSFERS:
            self.assertIs(stays(self, is_transfers, value), False)
        self.assertIs(is_transfers(V), False)

    def test_transfers_may_name_any_vessels(self):
        for transfers in FAR_TRANSFERS:
            self.assertIs(is_transfers(transfers), True)

    def test_the_argument_by_name(self):
        self.assertEqual([is_volumes(value=[3]), is_volumes(value=3)], [True, False])
        self.assertEqual([is_transfers(value=[]), is_transfers(value=())], [True, False])


class Possible(unittest.TestCase):
    def test_possible_transfers(self):
        for volumes, transfers in ALL:
            self.assertIs(stays(self, is_possible, volumes, transfers), True)
        for volumes in ([1], [1, 1], [MILLION] * 8):
            self.assertIs(is_possible(volumes, []), True)

    def test_no_vessel_is_emptied(self):
        for volume in (1, 2, 3, 7, 1000, MILLION):
            for amount in {1, 2, 3, 6, 7, 8, volume - 1, volume, volume + 1} & set(range(1, MILLION + 1)):
                self.assertIs(is_possible([volume, 1], [(0, 1, amount)]), amount < volume)
                self.assertIs(is_possible([1, 1, volume], [(2, 0, amount)]), amount < volume)

    def test_too_much(self):
        for transfers, _ in TOO_MUCH:
            self.assertIs(stays(self, is_possible, V, transfers), False)

    def test_what_the_giver_holds_then(self):
        # Vessel 1 can give more than it had at first, vessel 0 less.
        self.assertIs(is_possible(V, [(1, 0, 3)]), False)
        self.assertIs(is_possible(V, [(0, 1, 2), (1, 0, 3)]), True)
        self.assertIs(is_possible(V, [(0, 1, 2), (1, 0, 4)]), False)
        self.assertIs(is_possible(V, [(0, 1, 1), (0, 1, 1)]), True)
        self.assertIs(is_possible(V, [(0, 1, 1), (0, 1, 2)]), False)

    def test_only_errors_for_volumes_and_transfers(self):
        check_volumes(self, is_possible)
        check_transfers(self, is_possible)

    def test_arguments_by_name(self):
        self.assertIs(is_possible(transfers=T, volumes=V), True)
        self.assertIs(is_possible(transfers=[(0, 1, 3)], volumes=V), False)


class Volumes(unittest.TestCase):
    def test_small_ones(self):
        for transfers, wanted in [([], [3, 2]), ([(0, 1, 1)], [2, 3]), (T, [3, 2]), ([(0, 1, 2)], [1, 4]),
                                  ([(1, 0, 1)], [4, 1]), ([(0, 1, 2), (1, 0, 3)], [4, 1])]:
            self.assertEqual(volumes_after(V, transfers), wanted)
        self.assertEqual(volumes_after([2, 2, 2], [(0, 1, 1), (1, 2, 2)]), [1, 1, 4])

    def test_many(self):
        for volumes, transfers in ALL:
            self.assertEqual(stays(self, volumes_after, volumes, transfers), volumes_behind(volumes, transfers))

    def test_more_than_a_million(self):
        self.assertEqual(volumes_after(GREATEST[0], GREATEST[1][:7]), [1] * 7 + [7 * 999999 + MILLION])
        self.assertEqual(volumes_after([MILLION, MILLION], [(0, 1, 999999), (1, 0, MILLION)]), [1000001, 999999])

    def test_the_list_is_new(self):
        for transfers in ([], T):
            found = volumes_after(V, transfers)
            self.assertEqual((found.__class__, found is V), (list, False))
            found[0] = 77
            found.append(1)
            self.assertEqual((V, volumes_after(V, transfers)), ([3, 2], [3, 2]))


class Contents(unittest.TestCase):
    def test_of_the_document(self):
        self.assertEqual(contents_after(V, T), ratios_of([["7/3", "2/3"], ["2/3", "4/3"]]))
        self.assertEqual(contents_after(V, T[:1]), ratios_of([[2, 0], [1, 2]]))

    def test_at_first_each_vessel_holds_a_substance_of_its_own(self):
        for volumes in ([1], [7], [3, 2], [1, MILLION, 5], list(range(1, 9)), [MILLION] * 8):
            self.assertEqual(contents_after(volumes, []), pure(volumes))

    def test_small_ones(self):
        found = contents_after([2, 2, 2], [(0, 1, 1), (1, 2, 1), (2, 0, 1)])
        self.assertEqual(found, ratios_of([["10/9", "2/9", "2/3"], ["2/3", "4/3", 0], ["2/9", "4/9", "4/3"]]))

    def test_a_transfer_takes_all_substances_by_their_shares(self):
        # Vessel 0 holds 3 drops of two substances, and a third of both goes on.
        ahead = [(0, 1, 2), (1, 0, 2), (0, 2, 1)]
        before, after = contents_after([4, 2, 2], ahead), contents_after([4, 2, 2], ahead + [(0, 2, 1)])
        for substance in range(3):
            third = before[0][substance] * Ratio(1, 3)
            self.assertEqual(after[0][substance], before[0][substance] - third)
            self.assertEqual(after[2][substance], before[2][substance] + third)
            self.assertEqual(after[1][substance], before[1][substance])

    def test_many(self):
        for volumes, transfers in ALL:
            found = stays(self, contents_after, volumes, transfers)
            self.assertEqual(fractions_of(found), contents_behind(volumes, transfers))

    def test_rows_and_columns_add_up(self):
        for volumes, transfers in ALL:
            found = fractions_of(contents_after(volumes, transfers))
            self.assertEqual([sum(row) for row in found], volumes_behind(volumes, transfers))
            self.assertEqual([sum(column) for column in zip(*found)], volumes)

    def test_rows_of_ratios(self):
        for function in (contents_after, shares_after):
            for volumes, transfers in LONGEST:
                found = function(volumes, transfers)
                self.assertEqual([found.__class__, len(found)], [list, 8])
                for row in found:
                    self.assertEqual([row.__class__, len(row)], [list, 8])
                    self.assertTrue(all(is_ratio(ratio) for ratio in row))


class Shares(unittest.TestCase):
    def test_of_the_document(self):
        self.assertEqual(shares_after(V, T), ratios_of([["7/9", "2/9"], ["1/3", "2/3"]]))
        self.assertEqual(shares_after(V, T[:1]), ratios_of([[1, 0], ["1/3", "2/3"]]))

    def test_at_first(self):
        for volumes in ([1], [7], [3, 2], list(range(1, 9)), [MILLION] * 8):
            self.assertEqual(shares_after(volumes, []), pure([1] * len(volumes)))

    def test_many(self):
        for volumes, transfers in ALL:
            found = fractions_of(stays(self, shares_after, volumes, transfers))
            self.assertEqual(found, shares_behind(volumes, transfers))
            self.assertEqual([sum(row) for row in found], [1] * len(volumes))

    def test_they_are_the_amounts_by_the_volumes(self):
        for volumes, transfers in ALL:
            contents, now = contents_after(volumes, transfers), volumes_after(volumes, transfers)
            wanted = [[amount.over(Ratio(volume)) for amount in row] for row, volume in zip(contents, now)]
            self.assertEqual(shares_after(volumes, transfers), wanted)


class Walking(unittest.TestCase):
    def test_all_steps(self):
        for volumes, transfers in ALL:
            found = stays(self, walked, volumes, transfers)
            self.assertEqual(found[0], pure(volumes))
            self.assertEqual(found, [contents_after(volumes, transfers[:k]) for k in range(len(transfers) + 1)])

    def test_once_without_transfers(self):
        for volumes in ([1], [3, 2], [4] * 8):
            self.assertEqual(walked(volumes, []), [pure(volumes)])

    def test_step_by_step(self):
        walk = walk_contents(V, T)
        self.assertEqual(next(walk), ratios_of([[3, 0], [0, 2]]))
        self.assertEqual(next(walk), ratios_of([[2, 0], [1, 2]]))
        self.assertEqual(next(walk), ratios_of([["7/3", "2/3"], ["2/3", "4/3"]]))
        self.assertEqual(next(walk, None), None)

    def test_an_early_stop(self):
        for stop in range(3):
            walk = walk_contents(V, T)
            for k in range(stop):
                next(walk)
            walk.close()
            self.assertEqual(walked(V, T)[-1], contents_after(V, T))

    def test_two_by_turns(self):
        other = ([2, 2, 2], [(0, 1, 1), (1, 2, 2), (2, 0, 3)])
        one_walk, other_walk, same_walk = walk_contents(V, T), walk_contents(*other), walk_contents(V, T)
        found = [(next(one_walk), next(other_walk), next(same_walk)) for _ in range(3)]
        self.assertEqual([list(steps) for steps in zip(*found)], [walked(V, T), walked(*other)[:3], walked(V, T)])

    def test_a_result_that_the_caller_changes(self):
        for change in (lambda rows: rows.clear(), lambda rows: rows.reverse(), lambda rows: rows[0].clear(),
                       lambda rows: rows[1].reverse(), lambda rows: rows[0].append(Ratio(9)),
                       lambda rows: rows[1].__setitem__(0, Ratio(7)), lambda rows: rows.append([])):
            found = []
            for rows in walk_contents(V, T):
                found.append(frozen(rows))
                change(rows)
            self.assertEqual(found, [frozen(rows) for rows in walked(V, T)])

    def test_arguments_that_the_caller_changes_meanwhile(self):
        volumes, transfers = list(V), list(T)
        walk = walk_contents(volumes, transfers)
        found = [next(walk)]
        volumes[0], transfers[0] = 9, (1, 0, 1)
        found.append(next(walk))
        volumes.clear()
        transfers.clear()
        self.assertEqual(found + list(walk), walked(V, T))


class NewLists(unittest.TestCase):
    def test_every_list_is_new(self):
        for volumes, transfers in [(V, []), (V, T), LONGEST[0]]:
            kept = walked(volumes, transfers) + [contents_after(volumes, transfers), shares_after(volumes, transfers),
                                                 contents_after(volumes, transfers), shares_after(volumes, transfers)]
            numbers = [number for rows in kept for number in lists_within(rows)]
            self.assertEqual(len(set(numbers)), len(numbers))

    def test_a_changed_result_changes_nothing_later(self):
        for function in (contents_after, shares_after):
            for transfers in ([], T):
                wanted = frozen(function(V, transfers))
                found = function(V, transfers)
                found[0][0] = Ratio(77)
                found[1].clear()
                found.pop()
                self.assertEqual(frozen(function(V, transfers)), wanted)

    def test_rows_of_their_own(self):
        # No row stands in a result twice: a change of the one leaves the others alone.
        for function in (contents_after, shares_after):
            found = function([4] * 8, [])
            found[0][5] = Ratio(77)
            self.assertEqual([pair(row[5]) for row in found[1:5]], [(0, 1)] * 4)


class Faults(unittest.TestCase):
    def test_all_functions(self):
        for function in (volumes_after, contents_after, shares_after, walked):
            check_faults(self, function)

    def test_the_messages_need_no_long_numbers(self):
        # Python does not write integers of more than 4300 digits.
        for volumes, transfers in [([10 ** 5000], T), (V, [(0, 1, 10 ** 5000)]), (V, [(10 ** 5000, 1, 1)])]:
            self.assertIs(is_volumes(volumes) and is_transfers(transfers), False)
            with self.assertRaises(ValueError) as caught:
                volumes_after(volumes, transfers)
            self.assertEqual(caught.exception.__class__.__module__, "stirred.errors")

    def test_arguments_by_name(self):
        for function in (volumes_after, contents_after, shares_after, walked):
            self.assertEqual(function(transfers=T, volumes=V), function(V, T))
        self.assertEqual(list(walk_contents(transfers=T, volumes=V)), walked(V, T))


if __name__ == "__main__":
    unittest.main()
