"""Point 13: mixtures."""

import unittest
from fractions import Fraction
from itertools import permutations

from stirred.errors import InvalidMixtureError, InvalidRatioError, InvalidSubstanceError, ZeroRatioError
from stirred.mixtures import Mixture
from stirred.ratios import Ratio, is_ratio
from tests.values import BIG, NOT_INTEGERS, Anything, DictBelow, pair, pairs_of

NOT_SUBSTANCES = NOT_INTEGERS + [-1, 8, 9, -8, 10 ** 30, -10 ** 30]
NOT_RATIOS = [value for value in NOT_INTEGERS if not isinstance(value, Ratio)] + [0, 1, 2, -1, (1, 2), Mixture({})]


def mixed(*amounts):
    """Return a mixture of substances 0, 1, 2 and so on; None leaves one out."""
    return Mixture({k: Ratio(*amounts[k]) for k in range(len(amounts)) if amounts[k] is not None})


def samples():
    """Return mixtures of 0 to 8 substances."""
    return [Mixture({}), Mixture({0: Ratio(1)}), Mixture({7: Ratio(1, 3)}), Mixture({1: Ratio(2), 0: Ratio(1)}),
            Mixture({1: Ratio(1, 2)}), Mixture({6: Ratio(BIG, 7), 2: Ratio(1, BIG)}),
            Mixture({k: Ratio(k + 1, 9 - k) for k in (5, 3, 1)}), Mixture({k: Ratio(k + 1, 3) for k in range(7, -1, -1)})]


class Construction(unittest.TestCase):
    def test_from_0_to_8_substances(self):
        for many in range(9):
            one = Mixture({k: Ratio(k + 1, 2) for k in range(many)})
            self.assertEqual(len(one), many)
            self.assertEqual(one.substances, list(range(many)))
            self.assertEqual(pairs_of(one), {k: pair(Ratio(k + 1, 2)) for k in range(many)})
            wanted = Fraction(many * (many + 1), 4)
            self.assertEqual(pair(one.volume), (wanted.numerator, wanted.denominator))

    def test_any_order_of_the_keys(self):
        for order in permutations([0, 3, 4, 7]):
            one = Mixture({k: Ratio(k + 1) for k in order})
            self.assertEqual(one.substances, [0, 3, 4, 7])
            self.assertEqual(pair(one.volume), (18, 1))
            self.assertEqual(pairs_of(one), {0: (1, 1), 3: (4, 1), 4: (5, 1), 7: (8, 1)})

    def test_the_argument_by_name(self):
        self.assertEqual(pairs_of(Mixture(amounts={2: Ratio(3)})), {2: (3, 1)})

    def test_the_dict_stays_as_it_is(self):
        amounts = {5: Ratio(1), 2: Ratio(1, 2)}
        one = Mixture(amounts)
        one + one
        one * Ratio(3)
        self.assertEqual([(k, pair(amounts[k])) for k in amounts], [(5, (1, 1)), (2, (1, 2))])

    def test_a_dict_that_is_changed_afterwards(self):
        amounts = {1: Ratio(2), 0: Ratio(1)}
        one = Mixture(amounts)
        amounts[0] = Ratio(9)
        amounts[3] = Ratio(1)
        del amounts[1]
        self.assertEqual(pairs_of(one), {0: (1, 1), 1: (2, 1)})
        self.assertEqual([pair(one.volume), len(one), 3 in one], [(3, 1), 2, False])
        amounts.clear()
        self.assertEqual(pairs_of(one), {0: (1, 1), 1: (2, 1)})

    def test_no_dict(self):
        one = Ratio(1)
        for value in (None, True, 0, 1, "", "ab", [], [(0, one)], (), ((0, one),), one, {0}, set(), Mixture({}),
                      Mixture({0: one}), {0: one}.items(), iter([(0, one)]), DictBelow({0: one}), dict):
            with self.subTest(value):
                self.assertRaises(InvalidMixtureError, Mixture, value)

    def test_a_key_that_is_no_substance(self):
        keys = [-1, 8, 9, -7, 10 ** 30, True, False, None, 1.0, 0.0, 0.5, "0", "", b"0", (0,), (), Fraction(1), object()]
        for key in keys:
            with self.subTest(key):
                self.assertRaises(InvalidMixtureError, Mixture, {key: Ratio(1)})
                self.assertRaises(InvalidMixtureError, Mixture, {2: Ratio(1), key: Ratio(1)})
                self.assertRaises(InvalidMixtureError, Mixture, {key: Ratio(1), 2: Ratio(1)})

    def test_an_amount_that_is_no_ratio(self):
        for amount in NOT_RATIOS:
            with self.subTest(amount):
                self.assertRaises(InvalidMixtureError, Mixture, {0: amount})
                self.assertRaises(InvalidMixtureError, Mixture, {0: Ratio(1), 1: amount})
                self.assertRaises(InvalidMixtureError, Mixture, {1: amount, 0: Ratio(1)})

    def test_an_amount_that_is_not_greater_than_0(self):
        for amount in (Ratio(0), Ratio(-1), Ratio(-1, BIG), Ratio(-BIG), Ratio(0, 5)):
            self.assertRaises(InvalidMixtureError, Mixture, {0: amount})
            self.assertRaises(InvalidMixtureError, Mixture, {0: Ratio(1), 1: amount})
            self.assertRaises(InvalidMixtureError, Mixture, {1: amount, 0: Ratio(1)})

    def test_very_small_and_very_great_amounts(self):
        self.assertEqual(pairs_of(Mixture({3: Ratio(1, BIG), 0: Ratio(BIG)})), {0: (BIG, 1), 3: (1, BIG)})


class Reading(unittest.TestCase):
    def test_the_volume(self):
        self.assertEqual(pair(Mixture({}).volume), (0, 1))
        self.assertEqual(pair(mixed((1, 2), (1, 3), (1, 6)).volume), (1, 1))
        self.assertEqual(pair(Mixture({0: Ratio(BIG), 7: Ratio(1, BIG)}).volume), (BIG * BIG + 1, BIG))
        for one in samples():
            self.assertIs(is_ratio(one.volume), True)

    def test_the_substances_are_a_new_list_each_time(self):
        for one in samples():
            before = pairs_of(one)
            found = one.substances
            self.assertIs(found.__class__, list)
            kept = list(found)
            self.assertIsNot(found, one.substances)
            found.append(4)
            found.insert(0, 3)
            self.assertEqual(one.substances, kept)
            found.clear()
            self.assertEqual([one.substances, len(one), pairs_of(one)], [kept, len(kept), before])

    def test_the_amounts(self):
        one = Mixture({6: Ratio(3, 2), 0: Ratio(4)})
        self.assertEqual([pair(one.amount_of(k)) for k in range(8)],
                         [(4, 1), (0, 1), (0, 1), (0, 1), (0, 1), (0, 1), (3, 2), (0, 1)])
        self.assertEqual(pair(one.amount_of(substance=6)), (3, 2))
        self.assertEqual([pair(Mixture({}).amount_of(k)) for k in range(8)], [(0, 1)] * 8)
        self.assertIs(is_ratio(one.amount_of(1)), True)

    def test_the_shares(self):
        one = Mixture({6: Ratio(3, 2), 0: Ratio(4)})
        self.assertEqual([pair(one.share_of(k)) for k in range(8)],
                         [(8, 11), (0, 1), (0, 1), (0, 1), (0, 1), (0, 1), (3, 11), (0, 1)])
        self.assertEqual(pair(one.share_of(substance=6)), (3, 11))
        self.assertEqual(pair(Mixture({7: Ratio(5, 9)}).share_of(7)), (1, 1))

    def test_the_shares_add_up_to_1(self):
        for one in samples()[1:]:
            found = Ratio(0)
            for k in range(8):
                found = found + one.share_of(k)
            self.assertEqual(pair(found), (1, 1))

    def test_in(self):
        one = Mixture({0: Ratio(1), 1: Ratio(2), 7: Ratio(1, 9)})
        self.assertEqual([k in one for k in range(-2, 10)],
                         [False, False, True, True, False, False, False, False, False, True, False, False])
        self.assertEqual([k not in one for k in (0, 2)], [False, True])
        for value in NOT_SUBSTANCES + [Mixture({}), one, DictBelow(), Anything()]:
            with self.subTest(value):
                self.assertIs(value in one, False)
                self.assertIs(value in Mixture({}), False)
        self.assertIs(0 in Mixture({}), False)

    def test_true_and_false_are_no_substances(self):
        one = Mixture({0: Ratio(1), 1: Ratio(2)})
        self.assertIs(True in one, False)
        self.assertIs(False in one, False)
        self.assertIs(1 in one, True)
        self.assertIs(0 in one, True)

    def test_len(self):
        self.assertEqual([len(one) for one in samples()], [0, 1, 1, 2, 1, 2, 3, 8])

    def test_a_mixture_does_not_change(self):
        one = Mixture({0: Ratio(1)})
        with self.assertRaises(AttributeError):
            one.volume = Ratio(5)
        with self.assertRaises(AttributeError):
            one.substances = [1]
        self.assertEqual([pairs_of(one), pair(one.volume)], [{0: (1, 1)}, (1, 1)])


class Adding(unittest.TestCase):
    def test_sums(self):
        one, other = Mixture({1: Ratio(2), 0: Ratio(1)}), Mixture({7: Ratio(3), 1: Ratio(1, 2)})
        self.assertEqual(pairs_of(one + other), {0: (1, 1), 1: (5, 2), 7: (3, 1)})
        self.assertEqual(pairs_of(other + one), {0: (1, 1), 1: (5, 2), 7: (3, 1)})
        self.assertEqual((other + one).substances, [0, 1, 7])

    def test_all_samples_in_either_order(self):
        for one in samples():
            for other in samples():
                before = pairs_of(one), pairs_of(other)
                wanted = [pair(one.amount_of(k) + other.amount_of(k)) for k in range(8)]
                for found in (one + other, other + one):
                    self.assertIsInstance(found, Mixture)
                    self.assertEqual([pair(found.amount_of(k)) for k in range(8)], wanted)
                    self.assertEqual(found.substances, [k for k in range(8) if k in one or k in other])
                    self.assertEqual(len(found), len(found.substances))
                    self.assertEqual(pair(found.volume), pair(one.volume + other.volume))
                self.assertEqual((pairs_of(one), pairs_of(other)), before)

    def test_the_same_mixture_twice(self):
        for one in samples():
            found = one + one
            self.assertEqual(pairs_of(found), {k: pair(one.amount_of(k) * Ratio(2)) for k in one.substances})

    def test_with_the_empty_one(self):
        empty = Mixture({})
        for one in samples():
            self.assertEqual(pairs_of(one + empty), pairs_of(one))
            self.assertEqual(pairs_of(empty + one), pairs_of(one))
        self.assertEqual(len(empty + empty), 0)

    def test_a_chain(self):
        one, other = mixed((1,), (2,)), mixed(None, (1, 3), (4,))
        self.assertEqual(pairs_of(one + other + one * Ratio(2) + other), {0: (3, 1), 1: (20, 3), 2: (8, 1)})


class Multiplying(unittest.TestCase):
    def test_ratios_above_0(self):
        one = Mixture({4: Ratio(2), 0: Ratio(1, 3)})
        self.assertEqual(pairs_of(one * Ratio(3)), {0: (1, 1), 4: (6, 1)})
        self.assertEqual(pairs_of(one * Ratio(1, 2)), {0: (1, 6), 4: (1, 1)})
        self.assertEqual(pairs_of(one * Ratio(1)), pairs_of(one))
        self.assertEqual(pairs_of(one * Ratio(1, BIG)), {0: (1, 3 * BIG), 4: (2, BIG)})
        self.assertEqual(pairs_of(one), {0: (1, 3), 4: (2, 1)})
        self.assertIsInstance(one * Ratio(3), Mixture)

    def test_by_0_it_is_empty(self):
        for one in samples():
            before = pairs_of(one)
            for zero in (Ratio(0), Ratio(0, 8)):
                found = one * zero
                self.assertIsInstance(found, Mixture)
                self.assertEqual([len(found), found.substances, pair(found.volume)], [0, [], (0, 1)])
                self.assertIs(found == Mixture({}), True)
            self.assertEqual(pairs_of(one), before)

    def test_the_empty_one(self):
        for ratio in (Ratio(0), Ratio(1), Ratio(7, 3)):
            self.assertEqual(len(Mixture({}) * ratio), 0)

    def test_any_other_value(self):
        others = NOT_RATIOS + [Mixture({1: Ratio(1)}), Ratio(-1), Ratio(-1, BIG), Ratio(-BIG), Ratio, Anything()]
        for one in samples():
            before = pairs_of(one)
            for other in others:
                with self.subTest(other), self.assertRaises(InvalidRatioError):
                    one * other
            with self.assertRaises(InvalidRatioError):
                one * one
            self.assertEqual(pairs_of(one), before)


class Equality(unittest.TestCase):
    def check(self, one, other, wanted):
        self.assertEqual([one == other, other == one], [wanted, wanted])
        self.assertEqual([one != other, other != one], [not wanted, not wanted])

    def test_equal_ones(self):
        for one, other in zip(samples(), samples()):
            self.check(one, other, True)
            self.check(one, one, True)
        self.check(Mixture({0: Ratio(1, 2)}), Mixture({0: Ratio(3, 6)}), True)

    def test_whatever_the_order_in_which_keys_were_put_in(self):
        for order in permutations([0, 3, 4, 7]):
            self.check(Mixture({k: Ratio(k + 1) for k in order}), Mixture({k: Ratio(k + 1) for k in (0, 3, 4, 7)}), True)

    def test_equal_results(self):
        one, other = mixed((1,), (2,)), mixed(None, (1, 3), (4,))
        self.check(one + other, other + one, True)
        self.check(one + one, one * Ratio(2), True)
        self.check(Mixture({7: Ratio(1)}) + Mixture({0: Ratio(1)}), Mixture({0: Ratio(1), 7: Ratio(1)}), True)

    def test_unequal_ones(self):
        found = samples()
        for i in range(len(found)):
            for j in range(len(found)):
                if i != j:
                    self.check(found[i], found[j], False)

    def test_ones_that_differ_a_little(self):
        one = Mixture({0: Ratio(1), 1: Ratio(2)})
        for amounts in ({0: Ratio(1)}, {1: Ratio(2)}, {0: Ratio(2), 1: Ratio(1)}, {0: Ratio(1), 2: Ratio(2)},
                        {0: Ratio(1), 1: Ratio(2), 2: Ratio(1, BIG)}, {0: Ratio(1), 1: Ratio(2 * BIG + 1, BIG)},
                        {1: Ratio(3)}, {2: Ratio(1), 3: Ratio(2)}):
            self.check(one, Mixture(amounts), False)

    def test_a_value_that_is_no_mixture(self):
        for one in (Mixture({}), Mixture({0: Ratio(1)}), Mixture({1: Ratio(2), 0: Ratio(1)})):
            amounts = {k: one.amount_of(k) for k in one.substances}
            others = NOT_INTEGERS + [0, 1, 2, {}, [], (), "", amounts, one.substances, one.volume, Ratio(0), Mixture]
            for other in others:
                with self.subTest(other):
                    self.check(one, other, False)
            self.assertIs(one == Anything(), False)
            self.assertIs(one != Anything(), True)


class Errors(unittest.TestCase):
    def test_a_value_that_is_no_substance(self):
        for one in samples():
            before = pairs_of(one)
            for value in NOT_SUBSTANCES + [one]:
                with self.subTest(value):
                    self.assertRaises(InvalidSubstanceError, one.amount_of, value)
                    self.assertRaises(InvalidSubstanceError, one.share_of, value)
            self.assertEqual(pairs_of(one), before)

    def test_no_share_of_an_empty_mixture(self):
        for empty in (Mixture({}), Mixture({3: Ratio(1)}) * Ratio(0)):
            for substance in range(8):
                self.assertRaises(ZeroRatioError, empty.share_of, substance)
            self.assertEqual([len(empty), empty.substances, pair(empty.volume)], [0, [], (0, 1)])


if __name__ == "__main__":
    unittest.main()
