"""Point 16: any contents at first, and the way back to these."""

import unittest
from fractions import Fraction

from stirred.errors import InvalidContentsError, InvalidTransfersError, InvalidVolumesError, TooMuchError
from stirred.mixtures import Mixture
from stirred.origins import is_origin, origin_of, poured
from stirred.ratios import Ratio, is_ratio
from stirred.vessels import contents_after, volumes_after
from tests.faults import check_error, check_faults, stays
from tests.model import ALL, CASES, LONGEST, Numbers, fractions_of, ratios_of, shares_behind, volumes_behind
from tests.values import NOT_INTEGERS, NO_LISTS, Anything, ListBelow, T, V, lists_within, nested, pair

PURE = ratios_of([[3, 0], [0, 2]])
HALF = ratios_of([["3/2", "3/2"], [1, 1]])
BEHIND = ratios_of([["7/3", "2/3"], ["2/3", "4/3"]])

NOT_RATIOS = [value for value in NOT_INTEGERS if not isinstance(value, Ratio)] + [0, 3, (3, 1), Mixture({0: Ratio(3)}),
                                                                              Anything()]

# No contents for volumes of 3 and 2.
WRONG_CONTENTS = NO_LISTS + [
    [], [[]], [[], []], ratios_of([[3]]), ratios_of([[3], [2], [1]]), ratios_of([[2], [3]]), ratios_of([[3], [3]]),
    ratios_of([[2], [2]]), ratios_of([[3, 0], [2]]), ratios_of([[3], [2, 0]]), ratios_of([[4, -1], [1, 1]]),
    ratios_of([[3, 0], [-1, 3]]), ratios_of([[3, 0], [0, "3/2"]]), ratios_of([["7/3", "2/3"], ["2/3", "5/3"]]),
    ratios_of([["7/3", "1/3"], ["2/3", "4/3"]]), ratios_of([[0, 0], [0, 0]]), ratios_of([[3, 0], [0, 0]]),
    ratios_of([[0, 0], [2, 0]]), ratios_of([[0, 2], [3, 0]]), ratios_of([[3] + [0] * 8, [2] + [0] * 8]),
    ratios_of([[1] * 3, [1] * 2]), ratios_of([[3, 0, 0], [0, 2]]), ratios_of([["301/100", 0], [0, 2]]),
    ratios_of([["3/7"] * 7, ["1/3"] * 7]), ratios_of([["-3", "6"], [0, 2]]), (PURE[0], PURE[1]),
    [PURE[0], tuple(PURE[1])], [tuple(PURE[0]), PURE[1]], ListBelow(PURE), [ListBelow(PURE[0]), PURE[1]], [PURE],
    [PURE, PURE], {0: PURE[0], 1: PURE[1]},
    PURE[0], [3, 2], [[3, 0], [0, 2]], [[3], [2]], [Ratio(3), Ratio(2)], [None, None], [PURE[0], None], ["3 0", "0 2"],
    [Anything(), Anything()], [Mixture({0: Ratio(3)}), Mixture({1: Ratio(2)})], nested(20), nested(5000)] + [
    [[value, Ratio(0)], PURE[1]] for value in NOT_RATIOS] + [[PURE[0], [Ratio(2), value]] for value in NOT_RATIOS]


def any_contents(seed, volumes, each):
    """Return contents of so many substances for volumes, 0 of some."""
    numbers = Numbers(seed)
    found = []
    for volume in volumes:
        weights = [numbers.below(5) * numbers.below(1000) for _ in range(each)]
        weights[numbers.below(each)] += 1
        found.append([Fraction(volume * weight, sum(weights)) for weight in weights])
    return found


def poured_by_shares(volumes, transfers, contents):
    """Return the contents as fractions: each vessel holds its share of all that was in another one at first."""
    now = volumes_behind(volumes, transfers)
    at_first = [[amount / volume for amount in row] for row, volume in zip(contents, volumes)]
    return [[sum(share * row[k] for share, row in zip(shares, at_first)) * volume for k in range(len(contents[0]))]
            for shares, volume in zip(shares_behind(volumes, transfers), now)]


class Pouring(unittest.TestCase):
    def test_small_ones(self):
        three = ratios_of([["7/9", "13/9", "7/9"], ["2/9", "14/9", "2/9"]])
        for contents, wanted in [(PURE, BEHIND), (HALF, HALF), (ratios_of([[3], [2]]), ratios_of([[3], [2]])),
                                 (ratios_of([[0, 3], [2, 0]]), ratios_of([["2/3", "7/3"], ["4/3", "2/3"]])),
                                 (ratios_of([[1, 1, 1], [0, 2, 0]]), three)]:
            self.assertEqual(stays(self, poured, V, T, contents), wanted)

    def test_pure_contents(self):
        for volumes, transfers in ALL:
            pure = contents_after(volumes, [])
            self.assertEqual(stays(self, poured, volumes, transfers, pure), contents_after(volumes, transfers))

    def test_from_1_to_8_substances(self):
        for at, (volumes, transfers) in enumerate(ALL):
            for each in range(1, 9):
                contents = any_contents(at * 9 + each, volumes, each)
                found = stays(self, poured, volumes, transfers, ratios_of(contents))
                self.assertEqual(fractions_of(found), poured_by_shares(volumes, transfers, contents))
                self.assertEqual([sum(row) for row in fractions_of(found)], volumes_behind(volumes, transfers))

    def test_rows_of_ratios(self):
        found = poured(V, T, ratios_of([[1, 1, 1], [0, 2, 0]]))
        self.assertEqual([found.__class__] + [row.__class__ for row in found], [list] * 3)
        self.assertEqual([len(found)] + [len(row) for row in found], [2, 3, 3])
        self.assertTrue(all(is_ratio(ratio) for row in found for ratio in row))

    def test_without_transfers(self):
        for volumes, _ in CASES:
            contents = ratios_of(any_contents(5, volumes, 3))
            self.assertEqual(poured(volumes, [], contents), contents)

    def test_in_two_parts(self):
        for volumes, transfers in [case for case in ALL if sum(case[0]) <= 10 ** 6]:
            contents, cut = ratios_of(any_contents(7, volumes, 4)), len(transfers) // 2
            half = poured(volumes, transfers[:cut], contents)
            behind = volumes_after(volumes, transfers[:cut])
            self.assertEqual(poured(behind, transfers[cut:], half), poured(volumes, transfers, contents))

    def test_lists_are_new(self):
        for transfers in ([], T, T[:1]):
            contents = ratios_of([[3, 0], [0, 2]])
            found = poured(V, transfers, contents)
            self.assertEqual(len(set(lists_within(found) + lists_within(contents))), 6)
            found[0][0] = Ratio(77)
            found[1].clear()
            self.assertEqual(contents, PURE)

    def test_the_same_row_for_several_vessels(self):
        row = [Ratio(1), Ratio(2)]
        found = poured([3, 3], [], [row, row])
        found[0][0] = Ratio(77)
        self.assertEqual(found[1], ratios_of([[1, 2]])[0])
        found = origin_of([3, 3], [], [row, row])
        found[0][0] = Ratio(77)
        self.assertEqual([pair(ratio) for ratio in found[1] + row], [(1, 1), (2, 1)] * 2)


class Back(unittest.TestCase):
    def test_small_ones(self):
        for contents, wanted in [(BEHIND, PURE), (HALF, HALF), (PURE, None),
                                 (ratios_of([[3], [2]]), ratios_of([[3], [2]])),
                                 (ratios_of([["2/3", "7/3"], ["4/3", "2/3"]]), ratios_of([[0, 3], [2, 0]])),
                                 (ratios_of([[0, 3], [2, 0]]), None),
                                 (ratios_of([["7/3", "2/3"], [1, 1]]),
                                  ratios_of([["11/4", "1/4"], ["7/12", "17/12"]]))]:
            self.assertEqual(stays(self, origin_of, V, T, contents), wanted)

    def test_volumes_behind_the_transfers(self):
        self.assertEqual(origin_of(V, T[:1], ratios_of([[2, 0], [1, 2]])), PURE)
        self.assertEqual(origin_of(V, T[:1], ratios_of([[1, 1], [1, 2]])), ratios_of([["3/2", "3/2"], ["1/2", "3/2"]]))
        self.assertIs(origin_of(V, T[:1], ratios_of([[0, 2], [3, 0]])), None)

    def test_an_amount_just_below_0(self):
        tiny = Fraction(1, 10 ** 30)
        for first, second, wanted in [(0, 0, True), (tiny, 0, False), (-tiny, 0, True), (0, tiny, True),
                                      (0, -tiny, False), (-tiny, -tiny, False), (-tiny, tiny, True)]:
            behind = [[Fraction(7, 3) + first, Fraction(2, 3) - first],
                      [Fraction(2, 3) + second, Fraction(4, 3) - second]]
            self.assertEqual(origin_of(V, T, ratios_of(behind)) is not None, wanted, (first, second))

    def test_it_leads_back(self):
        for at, (volumes, transfers) in enumerate(ALL):
            for each in range(1, 9):
                contents = ratios_of(any_contents(at * 9 + each, volumes, each))
                behind = poured(volumes, transfers, contents)
                self.assertEqual(stays(self, origin_of, volumes, transfers, behind), contents)
                self.assertIs(stays(self, is_origin, volumes, transfers, behind, contents), True)

    def test_any_contents_behind(self):
        some = none = 0
        for at, (volumes, transfers) in enumerate(CASES):
            behind = ratios_of(any_contents(at, volumes_behind(volumes, transfers), 1 + at % 4))
            found = stays(self, origin_of, volumes, transfers, behind)
            if found is None:
                none += 1
            else:
                some += 1
                self.assertEqual(poured(volumes, transfers, found), behind)
                self.assertTrue(all(0 <= amount for row in fractions_of(found) for amount in row))
        self.assertTrue(some > 10 and none > 10, (some, none))

    def test_one_substance_alone(self):
        for volumes, transfers in ALL:
            behind = [[Ratio(volume)] for volume in volumes_behind(volumes, transfers)]
            self.assertEqual(origin_of(volumes, transfers, behind), [[Ratio(volume)] for volume in volumes])

    def test_pure_contents_behind_a_transfer(self):
        # The taker would have held less than nothing of what the giver holds.
        for volumes, transfers in [([5, 5], [(0, 1, 2)]), ([5, 5, 5], [(0, 1, 2), (1, 2, 3)])]:
            pure = contents_after(volumes_after(volumes, transfers), [])
            self.assertIs(origin_of(volumes, transfers, pure), None)
        self.assertEqual(origin_of(V, [], PURE), PURE)

    def test_lists_are_new(self):
        for transfers, contents in [([], PURE), (T, BEHIND)]:
            found = origin_of(V, transfers, contents)
            self.assertEqual(len(set(lists_within(found) + lists_within(contents))), 6)
            found[0][0] = Ratio(77)
            found[1].clear()
            self.assertEqual(origin_of(V, transfers, contents), PURE)


class Judging(unittest.TestCase):
    def test_small_ones(self):
        for contents, value, wanted in [
                (BEHIND, PURE, True), (BEHIND, HALF, False), (BEHIND, BEHIND, False), (HALF, HALF, True),
                (HALF, PURE, False), (PURE, PURE, False), (BEHIND, ratios_of([[0, 3], [2, 0]]), False),
                (ratios_of([[3], [2]]), ratios_of([[3], [2]]), True),
                (BEHIND, ratios_of([[3, 0, 0], [0, 2, 0]]), False),
                (ratios_of([[3], [2]]), ratios_of([[3, 0], [2, 0]]), False), (BEHIND, ratios_of([[3], [2]]), False),
                (ratios_of([["7/3", "2/3", 0], ["2/3", "4/3", 0]]), PURE, False)]:
            self.assertIs(stays(self, is_origin, V, T, contents, value), wanted)

    def test_where_there_is_none(self):
        for value in [None, False, [], PURE, HALF, BEHIND]:
            self.assertIs(is_origin(V, T, PURE, value), False)

    def test_each_amount_counts(self):
        for volumes, transfers in LONGEST:
            pure = contents_after(volumes, [])
            behind = contents_after(volumes, transfers)
            self.assertIs(is_origin(volumes, transfers, behind, pure), True)
            for vessel in range(8):
                other = [list(row) for row in pure]
                place, next_place = (vessel + 3) % 8, (vessel + 4) % 8
                other[vessel][vessel] = pure[vessel][vessel] - Ratio(1)
                other[vessel][place] = Ratio(1)
                self.assertIs(is_origin(volumes, transfers, behind, other), False)
                other[vessel][place], other[vessel][next_place] = Ratio(0), Ratio(1)
                self.assertIs(is_origin(volumes, transfers, behind, other), False)

    def test_any_value(self):
        for value in WRONG_CONTENTS + NOT_INTEGERS:
            for transfers, contents in [(T, BEHIND), (T, HALF), ([], PURE), (T, PURE)]:
                self.assertIs(stays(self, is_origin, V, transfers, contents, value), False)

    def test_amounts_below_0_at_first(self):
        # These rows would lead to the contents, but no vessel holds less than nothing.
        rows = ratios_of([["9/2", "-3/2"], ["-3/2", "7/2"]])
        self.assertIs(origin_of(V, T, PURE), None)
        self.assertIs(is_origin(V, T, PURE, rows), False)


class Faults(unittest.TestCase):
    def functions(self):
        return [lambda *three: poured(*three), lambda *three: origin_of(*three), lambda *three: is_origin(*three, PURE),
                lambda *three: is_origin(*three, None)]

    def test_volumes_and_transfers(self):
        for contents in (PURE, BEHIND, [], None, "abc"):
            check_faults(self, poured, contents)
            check_faults(self, origin_of, contents)
            check_faults(self, is_origin, contents, PURE)

    def test_contents_that_are_none(self):
        for function in self.functions():
            for contents in WRONG_CONTENTS:
                for transfers in (T, []):
                    check_error(self, InvalidContentsError, function, V, transfers, contents)

    def test_contents_for_the_volumes_at_first(self):
        early, late = PURE, ratios_of([[2, 0], [1, 2]])
        self.assertEqual(poured(V, T[:1], early), late)
        check_error(self, InvalidContentsError, poured, V, T[:1], late)

    def test_contents_for_the_volumes_behind(self):
        early, late = PURE, ratios_of([[2, 0], [1, 2]])
        self.assertEqual(origin_of(V, T[:1], late), early)
        self.assertIs(is_origin(V, T[:1], late, early), True)
        self.assertIs(is_origin(V, T[:1], late, late), False)
        check_error(self, InvalidContentsError, origin_of, V, T[:1], early)
        check_error(self, InvalidContentsError, is_origin, V, T[:1], early, early)
        check_error(self, InvalidContentsError, is_origin, V, T[:1], early, None)

    def test_the_order_of_the_errors(self):
        for function in self.functions():
            check_error(self, InvalidVolumesError, function, [0], None, None)
            check_error(self, InvalidTransfersError, function, V, [(0, 1, 3), (0, 2, 1)], None)
            error = check_error(self, TooMuchError, function, V, [(0, 1, 1), (0, 1, 2)], None)
            self.assertEqual(error.index, 1)
            check_error(self, InvalidContentsError, function, V, T, None)

    def test_arguments_by_name(self):
        self.assertEqual(poured(contents=PURE, transfers=T, volumes=V), BEHIND)
        self.assertEqual(origin_of(contents=BEHIND, transfers=T, volumes=V), PURE)
        self.assertIs(is_origin(value=PURE, contents=BEHIND, transfers=T, volumes=V), True)


if __name__ == "__main__":
    unittest.main()
