"""Point 17: what groups got and lost, and the rings in which vessels gave to one another."""

import unittest
from fractions import Fraction
from itertools import combinations, permutations

from stirred.errors import (InvalidGroupError, InvalidTransfersError, InvalidVolumesError, NotClosedError,
                            TooMuchError)
from stirred.exchange import are_rings, foreign_in, is_closed, rings_of
from stirred.ratios import Ratio, is_ratio
from tests.faults import check_error, check_faults, stays
from tests.model import (ALL, CLOSED, LONGEST, MILLION, contents_behind, fractions_of, ratios_of,
                         volumes_behind)
from tests.values import NO_LISTS, NOT_INTEGERS, Anything, ListBelow, T, V, frozen, nested

VVV = [2, 2, 2]
TTT = [(0, 1, 1), (1, 2, 1), (2, 0, 1)]
RINGS = [((0, 1, 2), Ratio(4, 9)), ((0, 1), Ratio(2, 9)), ((0, 2), Ratio(2, 9))]
OPEN = [([3, 2], [(0, 1, 1)]), (VVV, TTT[:2]), ([3, 2], [(0, 1, 1), (1, 0, 2)]), (VVV, TTT + [(1, 0, 1)]),
        ([2, 3], [(1, 0, 1)])]

# No groups of two vessels.
WRONG_GROUPS = NO_LISTS + [
    {0: 1}, (0,), (0, 1), {0}, range(2), "0", [2], [0, 2], [-1], [0, -1], [0, 0], [1, 1], [0, 1, 0], [0, 1, 1], [0] * 400,
    [7], [8], [10 ** 30], [[0]], [(0,)], [[0, 1]], [0, [1]], [0, None], ["0"], [Anything()], ListBelow([0]), nested(20),
    nested(5000)] + [[value] for value in NOT_INTEGERS] + [[0, value] for value in NOT_INTEGERS] + [
    [True], [False], [0, True], [False, 1], [1, False], [True, False]]

# No rings for any transfers.
NO_RINGS = NO_LISTS + [
    [None], [()], [[]], [Ratio(1)], [RINGS], [Anything()], [(Anything(), Anything())], [((0, 1), Anything())],
    [(Anything(), Ratio(1))], nested(20), nested(5000), [tuple(nested(20)) * 2], [((0, 1), nested(20))], "01", ["01"],
    [("01", Ratio(1))], [{(0, 1): Ratio(1)}], [0], [0, 1], [(0, 1)], [(0, 1), Ratio(1)], [((0, 1), 1)], [((0, 1),)]] + [
    [((0, 1), value)] for value in NOT_INTEGERS] + [[(value, Ratio(1))] for value in NOT_INTEGERS] + [
    [((0, value), Ratio(1))] for value in NOT_INTEGERS] + [[((value, 1), Ratio(1))] for value in NOT_INTEGERS]


def groups_of(many):
    """Return all groups of so many vessels, each one in some order."""
    groups = [list(group) for k in range(many + 1) for group in combinations(range(many), k)]
    return [group[at % (len(group) + 1):] + group[:at % (len(group) + 1)] for at, group in enumerate(groups)]


def given_in(rings, many):
    """Return what the rings give from each vessel to each one, as fractions."""
    given = [[Fraction(0)] * many for _ in range(many)]
    for ring, amount in rings:
        for at, giver in enumerate(ring):
            given[giver][ring[(at + 1) % len(ring)]] += Fraction(amount.top, amount.bottom)
    return given


def given_behind(volumes, transfers):
    """Return what each vessel holds of the substance of each one, by the one and as fractions."""
    rows = contents_behind(volumes, transfers)
    return [[rows[taker][giver] if taker != giver else 0 for taker in range(len(rows))] for giver in range(len(rows))]


class Groups(unittest.TestCase):
    def test_of_the_document(self):
        self.assertEqual(stays(self, foreign_in, VVV, TTT, [0]), (Ratio(8, 9), Ratio(8, 9)))
        self.assertEqual(stays(self, foreign_in, VVV, TTT[:1], [1]), (Ratio(1), Ratio(0)))

    def test_small_ones(self):
        for group, got, lost in [([], 0, 0), ([0], "2/3", "2/3"), ([1], "2/3", "2/3"), ([0, 1], 0, 0)]:
            self.assertEqual(foreign_in(V, T, group), tuple(ratios_of([[got, lost]])[0]))
        for group, got, lost in [([], 0, 0), ([0], 0, 1), ([1], 1, 0), ([1, 0], 0, 0)]:
            self.assertEqual(foreign_in(V, T[:1], group), tuple(ratios_of([[got, lost]])[0]))

    def test_all_groups_in_any_order(self):
        for volumes, transfers in ALL[::4] + CLOSED[::4] + LONGEST[:1]:
            rows = contents_behind(volumes, transfers)
            for group in groups_of(len(volumes)):
                got, lost = stays(self, foreign_in, volumes, transfers, group)
                rest = [vessel for vessel in range(len(volumes)) if vessel not in group]
                self.assertEqual(Fraction(got.top, got.bottom), sum(rows[v][s] for v in group for s in rest))
                self.assertEqual(Fraction(lost.top, lost.bottom), sum(rows[v][s] for v in rest for s in group))

    def test_they_differ_by_the_change_of_the_volume(self):
        for volumes, transfers in ALL:
            now = volumes_behind(volumes, transfers)
            for group in groups_of(len(volumes))[::5]:
                got, lost = foreign_in(volumes, transfers, group)
                self.assertEqual(got - lost, Ratio(sum(now[vessel] - volumes[vessel] for vessel in group)))

    def test_they_are_equal_if_all_volumes_are_as_at_first(self):
        for volumes, transfers in CLOSED:
            for group in groups_of(len(volumes))[::3]:
                got, lost = foreign_in(volumes, transfers, group)
                self.assertEqual(got, lost)

    def test_the_order_of_a_group_means_nothing(self):
        volumes, transfers = LONGEST[0]
        for group in permutations([1, 4, 6, 7]):
            self.assertEqual(foreign_in(volumes, transfers, list(group)), foreign_in(volumes, transfers, [7, 1, 6, 4]))

    def test_a_tuple_of_ratios(self):
        for volumes, transfers in ALL[:20]:
            for group in ([], [0], list(range(len(volumes)))):
                found = foreign_in(volumes, transfers, group)
                self.assertEqual((found.__class__, len(found)), (tuple, 2))
                self.assertTrue(all(is_ratio(ratio) for ratio in found))

    def test_no_vessel_and_all_vessels(self):
        for volumes, transfers in ALL:
            for group in ([], list(range(len(volumes)))[::-1]):
                self.assertEqual(foreign_in(volumes, transfers, group), (Ratio(0), Ratio(0)))

    def test_a_group_that_changes(self):
        group = [0]
        self.assertEqual(foreign_in(VVV, TTT[:1], group), (Ratio(0), Ratio(1)))
        group[0] = 1
        self.assertEqual(foreign_in(VVV, TTT[:1], group), (Ratio(1), Ratio(0)))
        group.append(0)
        self.assertEqual(foreign_in(VVV, TTT[:1], group), (Ratio(0), Ratio(0)))


class Closed(unittest.TestCase):
    def test_closed_ones(self):
        for volumes, transfers in CLOSED + [(V, T), (VVV, TTT), (V, [])]:
            self.assertIs(stays(self, is_closed, volumes, transfers), True)

    def test_open_ones(self):
        for volumes, transfers in OPEN:
            self.assertIs(stays(self, is_closed, volumes, transfers), False)

    def test_exactly_if_the_volumes_are_as_at_first(self):
        for volumes, transfers in ALL + CLOSED:
            for k in range(len(transfers) + 1):
                wanted = volumes_behind(volumes, transfers[:k]) == volumes
                self.assertIs(is_closed(volumes, transfers[:k]), wanted)

    def test_the_same_volumes_for_other_vessels(self):
        self.assertIs(is_closed([3, 2], [(0, 1, 1)]), False)
        self.assertIs(is_closed([4, 2, 2], [(0, 1, 2)]), False)


class Rings(unittest.TestCase):
    def check(self, volumes, transfers):
        found = stays(self, rings_of, volumes, transfers)
        self.assertIs(found.__class__, list)
        self.assertLessEqual(len(found), 56)
        for item in found:
            self.assertEqual((item.__class__, len(item)), (tuple, 2))
            ring, amount = item
            self.assertIs(ring.__class__, tuple)
            self.assertTrue(all(vessel.__class__ is int and 0 <= vessel < len(volumes) for vessel in ring))
            self.assertTrue(2 <= len(ring) <= 8 and len(set(ring)) == len(ring) and ring[0] == min(ring), ring)
            self.assertTrue(is_ratio(amount) and amount.top > 0)
        self.assertEqual(given_in(found, len(volumes)), given_behind(volumes, transfers))
        self.assertIs(are_rings(volumes, transfers, found), True)
        return found

    def test_many(self):
        for volumes, transfers in CLOSED + [(V, T), (VVV, TTT)]:
            self.check(volumes, transfers)

    def test_eight_vessels_of_which_each_holds_all(self):
        there = [(k, k + 1, 1) for k in range(7)]
        back = [(k + 1, k, 1) for k in range(7)]
        for transfers in (there + back[::-1], there + back[::-1] + there[:5] + back[:5][::-1],
                          there + [(7, 0, 1)] + there + [(7, 0, 1)] + there + [(7, 0, 1)]):
            found = self.check([3] * 8, transfers)
            self.assertGreater(len(found), 7)

    def test_a_long_ring(self):
        # Each vessel gives all but a drop to the next one, as if each content moved on by one vessel.
        transfers = [(k, 7, 10 ** 6 - 1) for k in range(1)] + [(k + 1, k, 10 ** 6 - 1) for k in range(6)] + [
            (7, 6, 10 ** 6 - 1)]
        found = self.check([10 ** 6] * 8, transfers)
        self.assertIn(8, [len(ring) for ring, _ in found])

    def test_without_exchange(self):
        for volumes in ([1], [5], V, VVV, [MILLION] * 8):
            self.assertEqual(rings_of(volumes, []), [])

    def test_two_vessels(self):
        self.assertEqual(rings_of(V, T), [((0, 1), Ratio(2, 3))])

    def test_the_list_is_new(self):
        found = rings_of(VVV, TTT)
        wanted = frozen(found)
        found.clear()
        self.assertEqual(frozen(rings_of(VVV, TTT)), wanted)

    def test_lists_that_the_caller_changes(self):
        volumes, transfers = [2, 2, 2], list(TTT)
        rings_of(volumes, transfers)
        transfers[2] = (2, 1, 1)
        with self.assertRaises(NotClosedError):
            rings_of(volumes, transfers)
        transfers[1:] = [(1, 0, 1)]
        self.assertEqual(rings_of(volumes, transfers), [((0, 1), Ratio(2, 3))])
        volumes[0] = 3
        self.assertEqual(rings_of(volumes, transfers), [((0, 1), Ratio(2, 3))])
        volumes[1] = 3
        self.assertEqual(rings_of(volumes, transfers), [((0, 1), Ratio(3, 4))])


class JudgingRings(unittest.TestCase):
    def check(self, value, wanted, *where):
        volumes, transfers = where or (VVV, TTT)
        self.assertIs(stays(self, are_rings, volumes, transfers, value), wanted)

    def test_of_the_document(self):
        self.check(RINGS, True)
        self.check(RINGS[:2], False)

    def test_in_any_order(self):
        for order in permutations(RINGS):
            self.check(list(order), True)

    def test_an_amount_in_parts(self):
        ring, amount = RINGS[0]
        for part in (Ratio(1, 9), Ratio(3, 9), Ratio(1, 1000), Ratio(1, 10 ** 30)):
            self.check(RINGS[1:] + [(ring, part), (ring, amount - part)], True)
            self.check([(ring, part)] + RINGS[1:] + [(ring, amount - part)], True)
            self.check(RINGS[1:] + [(ring, part), (ring, amount)], False)
        self.check(RINGS[1:] + [(ring, Ratio(1, 9))] * 4, True)
        self.check(RINGS[1:] + [(ring, Ratio(1, 9))] * 3, False)
        self.check(RINGS[1:] + [(ring, Ratio(1, 9))] * 5, False)

    def test_up_to_56_items(self):
        ring, amount = RINGS[0]
        for many in (53, 54, 55, 60, 398):
            parts = [(ring, amount * Ratio(1, many))] * many
            self.check(RINGS[1:] + parts, many + 2 <= 56)
            self.check(parts + RINGS[1:], many + 2 <= 56)
        parts = [(ring, amount * Ratio(k, 54 * 55 // 2)) for k in range(1, 55)]
        self.check(RINGS[1:] + parts, True)

    def test_another_list_of_rings(self):
        # Three rings of two and the two rings of three give the same.
        volumes, transfers = [3, 3, 3], [(0, 1, 1), (1, 0, 1), (1, 2, 1), (2, 1, 1), (2, 0, 1), (0, 2, 1)]
        found = rings_of(volumes, transfers)
        given = given_behind(volumes, transfers)
        least = min(given[a][b] for a in range(3) for b in range(3) if a != b)
        x = Ratio(least.numerator, 2 * least.denominator)
        pairs, triples = [(0, 1), (1, 2), (0, 2)], [(0, 1, 2), (0, 2, 1)]
        by_ring = {ring: Ratio(0) for ring in pairs + triples}
        for ring, amount in found:
            by_ring[ring] += amount
        seen = set()
        for turn in (x, -x, x * Ratio(1, 3), Ratio(0)):
            changed = {ring: amount + (turn if len(ring) == 3 else -turn) for ring, amount in by_ring.items()}
            value = [(ring, amount) for ring, amount in changed.items() if amount.top != 0]
            self.check(value, all(amount.top > 0 for _, amount in value), volumes, transfers)
            seen.add(all(amount.top > 0 for _, amount in value))
        self.assertIn(True, seen)

    def test_another_amount(self):
        for at in range(3):
            ring, amount = RINGS[at]
            for other in (Ratio(1, 9), Ratio(1), amount + Ratio(1, 10 ** 30), amount - Ratio(1, 10 ** 30), -amount,
                          Ratio(0), amount + amount):
                self.check(RINGS[:at] + [(ring, other)] + RINGS[at + 1:], other == amount)

    def test_amounts_that_are_not_greater_than_0(self):
        # The sums would be right.
        ring, amount = RINGS[0]
        self.check(RINGS + [(ring, Ratio(0))], False)
        self.check(RINGS + [((1, 2), Ratio(0))], False)
        self.check(RINGS[1:] + [(ring, amount + Ratio(1)), (ring, Ratio(-1))], False)
        self.check([(ring, Ratio(-1)), (ring, amount + Ratio(1))] + RINGS[1:], False)
        self.check(RINGS + [((0, 1, 2), Ratio(-1)), ((0, 2, 1), Ratio(-1)), ((0, 1), Ratio(1)), ((0, 2), Ratio(1)),
                            ((1, 2), Ratio(1))], False)
        for turn in ([((0, 1), Ratio(0))], [((0, 2), Ratio(1)), ((0, 2), Ratio(-1))]):
            self.check(turn, False, VVV, [])

    def test_another_order_of_a_ring(self):
        amount = RINGS[0][1]
        self.check([((0, 2, 1), amount)] + RINGS[1:], False)
        for ring in ((1, 2, 0), (2, 0, 1), (1, 0, 2), (2, 1, 0)):
            self.check([(ring, amount)] + RINGS[1:], False)
        self.check([RINGS[0], ((1, 0), RINGS[1][1]), RINGS[2]], False)
        self.check([RINGS[0], RINGS[1], ((2, 0), RINGS[2][1])], False)

    def test_longer_rings_in_another_order(self):
        for volumes, transfers in CLOSED:
            found = rings_of(volumes, transfers)
            for at, (ring, amount) in enumerate(found):
                if len(ring) > 2:
                    for other in (ring[:1] + ring[:0:-1], ring[1:] + ring[:1], ring[-1:] + ring[:-1]):
                        value = found[:at] + [(other, amount)] + found[at + 1:]
                        self.check(value, False, volumes, transfers)

    def test_an_item_left_out_or_twice(self):
        for volumes, transfers in CLOSED:
            found = rings_of(volumes, transfers)
            self.check(found, True, volumes, transfers)
            self.check(found[::-1], True, volumes, transfers)
            for at in range(len(found)):
                self.check(found[:at] + found[at + 1:], False, volumes, transfers)
                self.check(found[:at] + found[at:at + 1] + found[at:], False, volumes, transfers)

    def test_too_short_and_too_long_rings(self):
        for ring in ((), (0,), (1,), (0, 0), (0, 1, 0), (0, 1, 1), (0, 1, 2, 0), (0, 1, 2, 1), (0, 3), (3, 4), (-1, 0),
                     (0, 1, 2, 3, 4, 5, 6, 7), (0, 10 ** 30), tuple(range(9)), (0, 1) * 4, (0, 1) * 100):
            self.check([(ring, Ratio(1))], False)
            self.check(RINGS + [(ring, Ratio(1))], False)
            self.check([(ring, Ratio(1))] + RINGS, False)
        # Rings of one vessel give it nothing that is foreign.
        self.check([((0,), Ratio(1))], False, VVV, [])
        self.check(RINGS + [((2,), Ratio(1))], False)

    def test_rings_of_vessels_that_are_not_there(self):
        for ring in ((0, 1), (0, 2), (1, 2), (0, 1, 2), (2, 3)):
            self.check([(ring, Ratio(1))], False, [3], [])
            self.check([(ring, Ratio(1))], False, [3, 2], [])

    def test_kinds_of_lists_and_tuples(self):
        self.check(tuple(RINGS), False)
        self.check(ListBelow(RINGS), False)
        self.check({ring: amount for ring, amount in RINGS}, False)
        self.check(dict(enumerate(RINGS)), False)
        for at in range(3):
            ring, amount = RINGS[at]
            for item in ([ring, amount], (list(ring), amount), [list(ring), amount], (ring, amount, amount), (ring,),
                         (amount, ring), ring + (amount,), (ring, (amount,)), (ring, [amount]), (ring, frozen(amount)),
                         (ring, str(amount)), {ring: amount}, None, ring, amount):
                self.check(RINGS[:at] + [item] + RINGS[at + 1:], False)

    def test_no_bool_is_an_integer(self):
        amount = RINGS[0][1]
        for ring in ((False, 1, 2), (0, True, 2), (False, True, 2)):
            self.check([(ring, amount)] + RINGS[1:], False)
        for ring in ((False, 1), (0, True), (False, True)):
            self.check([(ring, Ratio(2, 3))], False, V, T)
        self.check([((0, 1), Ratio(2, 3))], True, V, T)
        for amount in (True, 1, 1.0, Fraction(1)):
            self.check([((0, 1), amount)], False, [2, 2], [(0, 1, 1), (1, 0, 1)] * 2)

    def test_any_value(self):
        for value in NO_RINGS:
            for where in ((VVV, TTT), (V, T), ([3], []), (VVV, [])):
                self.check(value, False, *where)
            self.check(RINGS + [value], False)
            self.check([value] + RINGS, False)

    def test_no_rings_at_all(self):
        for volumes in ([3], V, VVV, [1] * 8):
            self.check([], True, volumes, [])
        self.check([], False)
        self.check([], False, V, T)

    def test_whole_amounts(self):
        volumes, transfers = [2, 2], [(0, 1, 1), (1, 0, 1)]
        self.check([((0, 1), Ratio(2, 3))], True, volumes, transfers)
        self.check([((0, 1), Ratio(1, 3)), ((0, 1), Ratio(1, 3))], True, volumes, transfers)

    def test_a_value_that_changes(self):
        value = list(RINGS)
        self.check(value, True)
        value.pop()
        self.check(value, False)
        value.append(RINGS[2])
        self.check(value, True)


class Faults(unittest.TestCase):
    def test_volumes_and_transfers(self):
        check_faults(self, is_closed)
        for group in ([0], [True], None):
            check_faults(self, foreign_in, group)
        check_faults(self, rings_of)
        for value in (RINGS, None):
            check_faults(self, are_rings, value)

    def test_groups(self):
        for group in WRONG_GROUPS:
            for transfers in ([], T, T[:1]):
                check_error(self, InvalidGroupError, foreign_in, V, transfers, group)
        for group in ([8], [7], [0, 1, 2, 3, 4, 5, 6, 7], [6, 6]):
            check_error(self, InvalidGroupError, foreign_in, [2] * 7, [], group)
        check_error(self, InvalidGroupError, foreign_in, [5], [], [1])

    def test_not_closed(self):
        for volumes, transfers in OPEN:
            check_error(self, NotClosedError, rings_of, volumes, transfers)
            for value in (RINGS, [], None, [((0, 1), Ratio(2, 3))]) + tuple(NO_RINGS[::7]):
                check_error(self, NotClosedError, are_rings, volumes, transfers, value)

    def test_the_order_of_the_errors(self):
        check_error(self, InvalidVolumesError, foreign_in, [0], None, None)
        check_error(self, InvalidTransfersError, foreign_in, V, [(0, 2, 1)], [5])
        check_error(self, TooMuchError, foreign_in, V, [(0, 1, 3)], [5])
        check_error(self, TooMuchError, rings_of, V, [(0, 1, 1), (0, 1, 2)])
        check_error(self, TooMuchError, are_rings, V, [(0, 1, 1), (0, 1, 2)], None)

    def test_arguments_by_name(self):
        self.assertEqual(foreign_in(group=[0], transfers=TTT, volumes=VVV), (Ratio(8, 9), Ratio(8, 9)))
        self.assertIs(is_closed(transfers=TTT, volumes=VVV), True)
        self.assertEqual(rings_of(transfers=TTT, volumes=VVV), rings_of(VVV, TTT))
        self.assertIs(are_rings(value=RINGS, transfers=TTT, volumes=VVV), True)

    def test_equal_arguments_give_equal_results(self):
        volumes, transfers = CLOSED[-1]
        self.assertEqual(fractions_of([[amount for _, amount in rings_of(volumes, transfers)]]),
                         fractions_of([[amount for _, amount in rings_of(list(volumes), list(transfers))]]))
        self.assertEqual(rings_of(volumes, transfers), rings_of(volumes, transfers))


if __name__ == "__main__":
    unittest.main()
