"""Point 18: which substances reach which vessel, and as few transfers as bring all to all."""

import unittest
from itertools import permutations, product

from stirred.errors import (InvalidNumberError, InvalidSubstanceError, InvalidTransfersError, InvalidVesselError,
                            InvalidVolumesError, TooMuchError, TooSmallError)
from stirred.spread import brought_by, fewest_for_all, plan_for_all, substances_in
from stirred.vessels import contents_after, is_possible, is_transfers
from tests.faults import check_error, check_faults, stays
from tests.model import ALL, CLOSED, MILLION, Numbers, contents_behind
from tests.values import NOT_INTEGERS, T, V, WRONG_VOLUMES, lists_within

VVV = [2, 2, 2]
TT = [(0, 1, 1), (1, 2, 1)]


def spread_by(many, transfers):
    """Return for each step what the vessels hold: the taker gets all that the giver has."""
    steps = [[{vessel} for vessel in range(many)]]
    for giver, taker, _ in transfers:
        held = [set(row) for row in steps[-1]]
        held[taker] |= held[giver]
        steps.append(held)
    return steps


class Substances(unittest.TestCase):
    def test_of_the_document(self):
        self.assertEqual(stays(self, substances_in, VVV, TT), [[0], [0, 1], [0, 1, 2]])

    def test_small_ones(self):
        self.assertEqual(substances_in(V, T), [[0, 1], [0, 1]])
        self.assertEqual(substances_in(V, T[:1]), [[0], [0, 1]])
        self.assertEqual(substances_in(VVV, [(2, 0, 1)]), [[0, 2], [1], [2]])
        self.assertEqual(substances_in(VVV, [(2, 0, 1), (0, 1, 1)]), [[0, 2], [0, 1, 2], [2]])
        self.assertEqual(substances_in([2] * 4, [(3, 0, 1), (2, 0, 1), (0, 1, 1)]), [[0, 2, 3], [0, 1, 2, 3], [2], [3]])

    def test_without_transfers(self):
        for many in range(1, 9):
            self.assertEqual(substances_in([4] * many, []), [[vessel] for vessel in range(many)])

    def test_many(self):
        for volumes, transfers in ALL + CLOSED:
            found = stays(self, substances_in, volumes, transfers)
            self.assertEqual(found, [sorted(held) for held in spread_by(len(volumes), transfers)[-1]])

    def test_they_are_the_amounts_that_are_not_0(self):
        for volumes, transfers in ALL:
            rows = contents_behind(volumes, transfers)
            wanted = [[substance for substance, amount in enumerate(row) if amount > 0] for row in rows]
            self.assertEqual(substances_in(volumes, transfers), wanted)

    def test_a_single_drop_of_a_million(self):
        transfers = [(k, k + 1, 1) for k in range(7)]
        self.assertEqual(substances_in([MILLION] * 8, transfers), [list(range(vessel + 1)) for vessel in range(8)])

    def test_what_a_vessel_holds_it_keeps(self):
        transfers = [(0, 1, 1)] + [(1, 2, MILLION), (2, 1, MILLION)] * 11
        self.assertEqual(substances_in([MILLION] * 3, transfers), [[0], [0, 1, 2], [0, 1, 2]])

    def test_lists_are_new(self):
        for transfers in ([], TT):
            found, again = substances_in(VVV, transfers), substances_in(VVV, transfers)
            self.assertEqual([found.__class__] + [held.__class__ for held in found], [list] * 4)
            self.assertEqual(len(set(lists_within(found) + lists_within(again))), 8)
            found[0].append(7)
            found.pop()
            self.assertEqual(substances_in(VVV, transfers), again)


class Brought(unittest.TestCase):
    def test_of_the_document(self):
        self.assertEqual(stays(self, brought_by, VVV, TT, 2, 0), 1)
        self.assertIs(stays(self, brought_by, VVV, TT, 0, 1), None)

    def test_the_first_transfer_of_several(self):
        transfers = [(0, 1, 1), (1, 0, 1)] * 3
        self.assertEqual([brought_by(V, transfers, 1, 0), brought_by(V, transfers, 0, 1)], [0, 1])
        transfers = [(2, 1, 1), (0, 1, 1), (0, 1, 1)]
        self.assertEqual([brought_by([5, 5, 5], transfers, 1, k) for k in range(3)], [1, None, 0])

    def test_several_substances_at_once(self):
        transfers = [(0, 1, 1), (1, 2, 1), (2, 3, 1)]
        self.assertEqual([brought_by([2] * 4, transfers, 3, k) for k in range(4)], [2, 2, 2, None])

    def test_its_own_one(self):
        # Also where its own one comes back.
        for transfers in ([], T, T * 12):
            self.assertEqual([brought_by(V, transfers, k, k) for k in range(2)], [None, None])

    def test_many(self):
        for volumes, transfers in ALL[::3] + CLOSED[::5]:
            steps = spread_by(len(volumes), transfers)
            for vessel, substance in product(range(len(volumes)), repeat=2):
                held = [substance in step[vessel] for step in steps]
                wanted = held.index(True) - 1 if True in held and not held[0] else None
                found = stays(self, brought_by, volumes, transfers, vessel, substance)
                self.assertEqual((found, found.__class__), (wanted, wanted.__class__))

    def test_lists_that_the_caller_changes(self):
        volumes, transfers = [2, 2, 2], list(TT)
        self.assertEqual(brought_by(volumes, transfers, 2, 0), 1)
        transfers.reverse()
        self.assertIs(brought_by(volumes, transfers, 2, 0), None)
        transfers.append((1, 2, 1))
        self.assertEqual(brought_by(volumes, transfers, 2, 0), 2)
        volumes.append(9)
        self.assertIs(brought_by(volumes, transfers, 2, 3), None)


class Fewest(unittest.TestCase):
    def test_all_numbers(self):
        self.assertEqual([fewest_for_all(vessels) for vessels in range(1, 9)], [0, 2, 4, 6, 8, 10, 12, 14])

    def test_wrong_numbers(self):
        for value in NOT_INTEGERS + [0, -1, 9, 10, 100, -8, 10 ** 30, None, [3], V]:
            check_error(self, InvalidNumberError, fewest_for_all, value)

    def test_the_argument_by_name(self):
        self.assertEqual(fewest_for_all(vessels=3), 4)

    def test_fewer_do_not_do_it_for_two_and_three_vessels(self):
        # How much is poured means nothing for that.
        for many in (2, 3):
            ways = [(giver, taker, 1) for giver, taker in permutations(range(many), 2)]
            for length in range(fewest_for_all(many)):
                for transfers in product(ways, repeat=length):
                    self.assertNotEqual(substances_in([9] * many, list(transfers)), [list(range(many))] * many)

    def test_fewer_do_not_do_it_for_four_vessels(self):
        ways = list(permutations(range(4), 2))
        states = {tuple(frozenset([vessel]) for vessel in range(4))}
        for _ in range(fewest_for_all(4)):
            self.assertNotIn((frozenset(range(4)),) * 4, states)
            states = {tuple(held | state[giver] if vessel == taker else held for vessel, held in enumerate(state))
                      for state in states for giver, taker in ways}
        self.assertIn((frozenset(range(4)),) * 4, states)


class Plans(unittest.TestCase):
    def check(self, volumes):
        found = stays(self, plan_for_all, volumes)
        many = len(volumes)
        self.assertIs(found.__class__, list)
        self.assertIs(is_transfers(found) and is_possible(volumes, found), True)
        self.assertEqual(len(found), 2 * many - 2)
        self.assertEqual(substances_in(volumes, found), [list(range(many))] * many)
        self.assertTrue(all(amount.top > 0 for row in contents_after(volumes, found) for amount in row))

    def test_equal_volumes(self):
        for many in range(1, 9):
            for volume in (2, 3, 4, 10, 999999, MILLION):
                self.check([volume] * many)

    def test_very_different_volumes(self):
        for many in range(2, 9):
            for at in range(many):
                self.check([2] * at + [MILLION] + [2] * (many - at - 1))
                self.check([MILLION] * at + [2] + [MILLION] * (many - at - 1))
            self.check(([2, MILLION] * 4)[:many])
            self.check(([MILLION, 2] * 4)[:many])

    def test_all_small_volumes(self):
        for many in (2, 3, 4):
            for volumes in product([2, 3, 4], repeat=many):
                self.check(list(volumes))

    def test_many_volumes(self):
        numbers = Numbers(17)
        for at in range(80):
            most = (3, 10, 1000, MILLION)[at % 4]
            self.check([numbers.between(2, most) for _ in range(1 + at % 8)])

    def test_one_vessel(self):
        for volume in (1, 2, 3, MILLION):
            self.assertEqual(stays(self, plan_for_all, [volume]), [])

    def test_too_small(self):
        for many in range(2, 9):
            for at in range(many):
                check_error(self, TooSmallError, plan_for_all, [5] * at + [1] + [5] * (many - at - 1))
            check_error(self, TooSmallError, plan_for_all, [1] * many)
        check_error(self, TooSmallError, plan_for_all, [1, MILLION])
        check_error(self, TooSmallError, plan_for_all, [MILLION, 1])

    def test_wrong_volumes(self):
        for value in WRONG_VOLUMES:
            check_error(self, InvalidVolumesError, plan_for_all, value)
        check_error(self, InvalidVolumesError, plan_for_all, [1, 0])

    def test_the_list_is_new(self):
        found, again = plan_for_all(VVV), plan_for_all(VVV)
        found.clear()
        self.assertEqual(plan_for_all(VVV), again)
        self.assertEqual(len(again), 4)

    def test_the_argument_by_name(self):
        self.assertEqual(plan_for_all(volumes=[2, 2]), plan_for_all([2, 2]))


class Faults(unittest.TestCase):
    def test_volumes_and_transfers(self):
        check_faults(self, substances_in)
        for more in ([0, 1], [0, None], [9, 9], [None, None]):
            check_faults(self, brought_by, *more)

    def test_vessels(self):
        for vessel in NOT_INTEGERS + [-1, 2, 3, 7, 8, 10 ** 30]:
            for substance in (0, 1, 2, None, True):
                check_error(self, InvalidVesselError, brought_by, V, T, vessel, substance)
        check_error(self, InvalidVesselError, brought_by, [2] * 8, [], 8, 0)
        check_error(self, InvalidVesselError, brought_by, [2], [], 1, 0)

    def test_substances(self):
        for substance in NOT_INTEGERS + [-1, 2, 3, 7, 8, 10 ** 30]:
            for vessel in (0, 1):
                check_error(self, InvalidSubstanceError, brought_by, V, T, vessel, substance)
        check_error(self, InvalidSubstanceError, brought_by, [2] * 8, [], 0, 8)
        check_error(self, InvalidSubstanceError, brought_by, [2], [], 0, 1)

    def test_the_order_of_the_errors(self):
        check_error(self, InvalidVolumesError, brought_by, [], None, None, None)
        check_error(self, InvalidTransfersError, brought_by, V, [(0, 2, 9)], None, None)
        check_error(self, TooMuchError, brought_by, V, [(0, 1, 3)], None, None)
        check_error(self, InvalidVesselError, brought_by, V, [], None, None)

    def test_arguments_by_name(self):
        self.assertEqual(substances_in(transfers=TT, volumes=VVV), [[0], [0, 1], [0, 1, 2]])
        self.assertEqual(brought_by(substance=0, vessel=2, transfers=TT, volumes=VVV), 1)


if __name__ == "__main__":
    unittest.main()
