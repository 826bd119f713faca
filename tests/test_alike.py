"""Points 19 and 20: lists of transfers that do the same, their layers, and their numbers."""

import unittest
from collections import Counter
from itertools import permutations, product
from math import comb, factorial

from stirred.alike import (alike_rank, are_alike, are_free, count_alike, layers_of, least_alike, nth_alike)
from stirred.errors import InvalidNumberError, InvalidTransfersError, TooManyError
from tests.faults import check_error, stays
from tests.model import all_alike, free, some_list, walked
from tests.values import NOT_INTEGERS, T, WRONG_TRANSFERS, lists_within

ABC = [(2, 3, 1), (0, 1, 1), (1, 2, 1)]

# No transfers by themselves.
NO_TRANSFERS = [value[0] for value in WRONG_TRANSFERS if type(value) is list and len(value) == 1] + [
    None, True, 0, "0>1:1", (), [], [0, 1, 1], [(0, 1, 1)], ((0, 1, 1),), {0: 1}, (0, 1), (0, 1, 1, 1)]


SHORT = [some_list(seed, seed % 7, 2 + seed % 5) for seed in range(120)] + [
    [(0, 1, 1)] * 6, [(0, 1, 1), (0, 1, 2)] * 3, [(0, 1, 1), (1, 0, 1)] * 3, [(0, 1, 1), (2, 3, 1)] * 3,
    [(0, 1, k) for k in range(6, 0, -1)], [(k, k + 1, 1) for k in range(6)], [(k + 1, k, 1) for k in range(6)],
    [(0, 2, 1), (1, 2, 1), (3, 2, 1), (0, 2, 1), (3, 2, 1), (1, 2, 1)], [(0, k, 9) for k in range(6, 0, -1)]]

LONG = [some_list(seed, 24, 2 + seed % 7, (1, 2, 10 ** 6)[seed % 3]) for seed in range(300, 335)] + [
    [(0, 1, 1), (2, 3, 1)] * 12, [(0, 1, 24 - k) for k in range(24)], [(0, 1, 1)] * 24]

FOURTEEN = [some_list(seed, 8 + seed % 7, 2 + seed % 7, (1, 2, 99)[seed % 3]) for seed in range(500, 530)] + [
    some_list(seed, 14, 8, 10 ** 6) for seed in range(600, 606)]


class Free(unittest.TestCase):
    def test_of_the_document(self):
        self.assertEqual([are_free(ABC[0], ABC[1]), are_free(ABC[1], ABC[2])], [True, False])

    def test_small_ones(self):
        for one, other, wanted in [((0, 1, 1), (2, 3, 1), True), ((0, 1, 1), (0, 1, 1), True),
                                   ((0, 1, 1), (0, 1, 2), True), ((0, 1, 1), (0, 2, 1), True),
                                   ((0, 2, 1), (1, 2, 1), True), ((0, 1, 1), (1, 2, 1), False),
                                   ((1, 2, 1), (0, 1, 1), False), ((0, 1, 1), (2, 0, 1), False),
                                   ((0, 1, 1), (1, 0, 1), False), ((0, 1, 5), (1, 0, 6), False)]:
            self.assertIs(stays(self, are_free, one, other), wanted)

    def test_all_vessels_in_both_orders(self):
        ways = list(permutations(range(8), 2))
        for one, other in product(ways, repeat=2):
            found = are_free(one + (1,), other + (2,))
            self.assertIs(found, free(one + (1,), other + (2,)))
            self.assertIs(are_free(other + (2,), one + (1,)), found)

    def test_the_amounts_mean_nothing(self):
        for amount in (1, 2, 10 ** 6):
            self.assertIs(are_free((0, 1, amount), (0, 1, 1)), True)
            self.assertIs(are_free((0, 1, 1), (1, 2, amount)), False)

    def test_arguments_by_name(self):
        self.assertIs(are_free(other=(2, 3, 1), one=(0, 1, 1)), True)


class Alike(unittest.TestCase):
    def test_of_the_document(self):
        self.assertIs(are_alike(ABC, ABC[::-1]), False)

    def test_all_lists_that_exchanges_make(self):
        for transfers in SHORT:
            for other in all_alike(transfers)[:40]:
                self.assertIs(stays(self, are_alike, transfers, other), True)
                self.assertIs(are_alike(other, transfers), True)

    def test_exactly_these(self):
        for transfers in SHORT:
            alike = all_alike(transfers)
            for other in list(permutations(transfers))[::7]:
                self.assertIs(are_alike(transfers, list(other)), list(other) in alike)
                self.assertIs(are_alike(list(other), transfers), list(other) in alike)

    def test_all_pairs_of_short_lists(self):
        letters = [(0, 1, 1), (1, 0, 1), (0, 2, 1), (2, 1, 2)]
        words = [list(word) for length in range(4) for word in product(letters, repeat=length)]
        for one in words:
            alike = all_alike(one)
            for other in words:
                self.assertIs(are_alike(one, other), other in alike)

    def test_long_lists(self):
        for seed, transfers in enumerate(LONG):
            other = walked(seed, transfers, 2000)
            self.assertIs(stays(self, are_alike, transfers, other), True)
            self.assertIs(are_alike(other, transfers), True)
            self.assertIs(are_alike(transfers, list(transfers)), True)

    def test_another_amount(self):
        for seed, transfers in enumerate(SHORT + LONG):
            for at in range(0, len(transfers), 5):
                giver, taker, amount = transfers[at]
                other = transfers[:at] + [(giver, taker, amount % 10 ** 6 + 1)] + transfers[at + 1:]
                self.assertIs(are_alike(transfers, walked(seed, other, 50)), False)
                self.assertIs(are_alike(other, transfers), False)

    def test_one_more_or_less(self):
        for seed, transfers in enumerate(SHORT + LONG):
            for at in range(0, len(transfers), 5):
                less = walked(seed, transfers[:at] + transfers[at + 1:], 50)
                self.assertIs(are_alike(transfers, less), False)
                self.assertIs(are_alike(less, transfers), False)
        self.assertIs(are_alike([], [(0, 1, 1)]), False)
        self.assertIs(are_alike([(0, 1, 1)], [(0, 1, 1)] * 2), False)

    def test_another_vessel(self):
        for at in range(3):
            other = list(ABC)
            other[at] = (ABC[at][0], 7, 1)
            self.assertIs(are_alike(ABC, other), False)

    def test_one_exchange_of_neighbors_that_are_not_free(self):
        seen = 0
        for seed, transfers in enumerate(SHORT + LONG):
            for k in range(len(transfers) - 1):
                if not free(transfers[k], transfers[k + 1]):
                    other = transfers[:k] + [transfers[k + 1], transfers[k]] + transfers[k + 2:]
                    self.assertIs(are_alike(transfers, walked(seed, other, 50)), False)
                    self.assertIs(are_alike(other, transfers), False)
                    seen += 1
        self.assertGreater(seen, 100)

    def test_lists_that_the_caller_changes(self):
        one, other = list(ABC), [ABC[1], ABC[0], ABC[2]]
        self.assertIs(are_alike(one, other), True)
        other.reverse()
        self.assertIs(are_alike(one, other), False)
        one[:] = other
        self.assertIs(are_alike(one, other), True)

    def test_arguments_by_name(self):
        self.assertIs(are_alike(other=ABC, transfers=ABC), True)


class Layers(unittest.TestCase):
    def test_of_the_document(self):
        self.assertEqual(stays(self, layers_of, ABC), [[(0, 1, 1), (2, 3, 1)], [(1, 2, 1)]])

    def test_small_ones(self):
        self.assertEqual(layers_of([]), [])
        self.assertEqual(layers_of([(0, 1, 1)] * 3), [[(0, 1, 1)] * 3])
        self.assertEqual(layers_of([(0, 1, 1), (1, 0, 1)] * 2), [[(0, 1, 1)], [(1, 0, 1)]] * 2)
        self.assertEqual(layers_of([(0, 1, 1), (1, 0, 1), (0, 1, 1), (0, 1, 1)]),
                         [[(0, 1, 1)], [(1, 0, 1)], [(0, 1, 1)] * 2])
        self.assertEqual(layers_of([(0, 1, 2), (0, 1, 10), (0, 1, 1)]), [[(0, 1, 1), (0, 1, 2), (0, 1, 10)]])
        self.assertEqual(layers_of([(1, 2, 1), (0, 1, 1), (5, 6, 1)]), [[(1, 2, 1), (5, 6, 1)], [(0, 1, 1)]])

    def test_as_early_as_those_that_hold_it_back_let_it(self):
        for transfers in SHORT + LONG + FOURTEEN:
            depths = []
            for at, transfer in enumerate(transfers):
                held = [depths[k] for k in range(at) if not free(transfers[k], transfer)]
                depths.append(max(held, default=-1) + 1)
            wanted = [sorted(transfers[at] for at in range(len(transfers)) if depths[at] == depth)
                      for depth in range(max(depths, default=-1) + 1)]
            self.assertEqual(stays(self, layers_of, transfers), wanted)

    def test_all_transfers_stand_in_them(self):
        for transfers in SHORT + LONG:
            together = [transfer for layer in layers_of(transfers) for transfer in layer]
            self.assertEqual(Counter(together), Counter(transfers))
            self.assertIs(are_alike(transfers, together), True)

    def test_alike_lists_have_equal_layers(self):
        for transfers in SHORT:
            for other in all_alike(transfers)[::9]:
                self.assertEqual(layers_of(other), layers_of(transfers))
        for seed, transfers in enumerate(LONG):
            self.assertEqual(layers_of(walked(seed, transfers, 2000)), layers_of(transfers))

    def test_lists_are_new(self):
        found, again = layers_of(ABC), layers_of(ABC)
        self.assertEqual([found.__class__] + [layer.__class__ for layer in found], [list] * 3)
        self.assertEqual(len(set(lists_within(found) + lists_within(again))), 6)
        found[0].clear()
        found.pop()
        self.assertEqual((layers_of(ABC), len(again[0])), (again, 2))

    def test_the_argument_by_name(self):
        self.assertEqual(layers_of(transfers=ABC), layers_of(ABC))


class Numbered(unittest.TestCase):
    def check(self, transfers, wanted):
        """Compare all that is numbered with the ascending list of all alike lists."""
        self.assertEqual(stays(self, count_alike, transfers), len(wanted))
        self.assertEqual(stays(self, alike_rank, transfers), wanted.index(transfers))
        self.assertEqual(stays(self, least_alike, transfers), wanted[0])
        for index in sorted({0, 1, len(wanted) // 2, len(wanted) - 2, len(wanted) - 1} & set(range(len(wanted)))):
            self.assertEqual(stays(self, nth_alike, transfers, index), wanted[index])

    def test_of_the_document(self):
        self.assertEqual([count_alike(ABC), alike_rank(ABC)], [2, 1])
        self.assertEqual(nth_alike(ABC, 0), [(0, 1, 1), (2, 3, 1), (1, 2, 1)])
        self.assertEqual(nth_alike(ABC, 1), ABC)
        self.assertEqual(least_alike(ABC), [(0, 1, 1), (2, 3, 1), (1, 2, 1)])

    def test_all_lists_that_exchanges_make(self):
        for transfers in SHORT:
            self.check(transfers, all_alike(transfers))

    def test_all_indices(self):
        for transfers in SHORT[::3]:
            wanted = all_alike(transfers)
            self.assertEqual([nth_alike(transfers, index) for index in range(len(wanted))], wanted)
            self.assertEqual([alike_rank(word) for word in wanted], list(range(len(wanted))))

    def test_from_any_of_them(self):
        for transfers in SHORT[::4]:
            wanted = all_alike(transfers)
            for word in wanted[::11]:
                self.check(word, wanted)

    def test_all_short_lists(self):
        letters = [(0, 1, 1), (1, 0, 1), (2, 0, 1), (2, 0, 2)]
        for length in range(5):
            for word in product(letters, repeat=length):
                self.check(list(word), all_alike(word))

    def test_no_transfers(self):
        self.assertEqual([count_alike([]), alike_rank([]), nth_alike([], 0), least_alike([])], [1, 0, [], []])

    def test_equal_transfers_cannot_be_told_apart(self):
        for many in range(15):
            self.assertEqual(count_alike([(0, 1, 1)] * many), 1)
            self.assertEqual(count_alike([(0, 1, 1), (0, 1, 2)] * (many // 2)), comb(many // 2 * 2, many // 2))
            self.assertEqual(count_alike([(0, 1, 1)] * (many // 2) + [(3, 2, 1)] * (many - many // 2)),
                             comb(many, many // 2))

    def test_fourteen_that_are_all_free(self):
        transfers = [(0, 1, amount) for amount in range(1, 15)]
        self.assertEqual(count_alike(transfers), factorial(14))
        self.assertEqual([alike_rank(transfers), alike_rank(transfers[::-1])], [0, factorial(14) - 1])
        self.assertEqual(nth_alike(transfers, factorial(14) - 1), transfers[::-1])
        self.assertEqual(nth_alike(transfers, factorial(13)), transfers[1:2] + transfers[:1] + transfers[2:])
        self.assertEqual(count_alike([(0, 1 + k % 7, 1 + k // 7) for k in range(14)]), factorial(14))

    def test_two_that_go_on_by_themselves(self):
        # Two sequences that hold nothing of each other back: only where they meet is free.
        transfers = [(0, 1, 1), (1, 0, 1)] * 3 + [(2, 3, 1), (3, 2, 1)] * 4
        self.assertEqual(count_alike(transfers), comb(14, 6))
        self.assertEqual(alike_rank(transfers), 0)
        self.assertEqual(nth_alike(transfers, comb(14, 6) - 1), transfers[6:] + transfers[:6])

    def test_none_of_which_is_free(self):
        transfers = [(0, 1, 1), (1, 0, 2)] * 7
        self.assertEqual([count_alike(transfers), alike_rank(transfers)], [1, 0])
        self.assertEqual([nth_alike(transfers, 0), least_alike(transfers)], [transfers] * 2)

    def test_there_and_back_for_up_to_fourteen(self):
        for transfers in FOURTEEN:
            many = count_alike(transfers)
            rank = alike_rank(transfers)
            self.assertEqual(nth_alike(transfers, rank), transfers)
            self.assertEqual(nth_alike(transfers, 0), least_alike(transfers))
            some = {0, 1, 2, many - 1, many - 2, many // 3, many // 3 + 1, rank - 1, rank + 1, rank // 2}
            indices = sorted(index for index in some if 0 <= index < many)
            words = [nth_alike(transfers, index) for index in indices]
            self.assertEqual([alike_rank(word) for word in words], indices)
            self.assertEqual(words, sorted(words))
            self.assertEqual(len({tuple(word) for word in words}), len(words))
            for word in words:
                self.assertIs(are_alike(transfers, word), True)
                self.assertEqual(count_alike(word), many)

    def test_the_least_one_of_long_lists(self):
        for seed, transfers in enumerate(LONG):
            found = stays(self, least_alike, transfers)
            self.assertIs(are_alike(transfers, found), True)
            self.assertEqual(least_alike(found), found)
            for other in range(5):
                word = walked(seed * 5 + other, transfers, 500)
                self.assertLessEqual(found, word)
                self.assertEqual(least_alike(word), found)

    def test_the_least_one_of_short_lists_within_long_ones(self):
        # What is free with all the rest comes to its place among the others, which keep their order.
        chain = [(1, 0, 5), (0, 1, 5)] * 11
        self.assertEqual(least_alike(chain + [(2, 3, 1), (0, 1, 9)])[:3], [(1, 0, 5), (0, 1, 5), (1, 0, 5)])
        self.assertEqual(least_alike(chain + [(2, 3, 1)]), chain + [(2, 3, 1)])
        self.assertEqual(least_alike([(2, 3, 1)] + chain), chain + [(2, 3, 1)])

    def test_lists_are_new(self):
        for function in (least_alike, lambda transfers: nth_alike(transfers, 0)):
            for transfers in ([], [(0, 1, 1)], ABC, T):
                found, again = function(transfers), function(transfers)
                self.assertEqual(found.__class__, list)
                self.assertEqual(len({id(found), id(again), id(transfers)}), 3)
                found.append((7, 6, 5))
                found.reverse()
                self.assertEqual(function(transfers), again)

    def test_lists_that_the_caller_changes(self):
        transfers = list(ABC)
        self.assertEqual(count_alike(transfers), 2)
        transfers.pop()
        self.assertEqual([count_alike(transfers), alike_rank(transfers)], [2, 1])
        transfers.reverse()
        self.assertEqual(alike_rank(transfers), 0)
        transfers[0] = (3, 2, 1)
        self.assertEqual([count_alike(transfers), nth_alike(transfers, 0)], [1, [(3, 2, 1), (2, 3, 1)]])

    def test_plain_integers(self):
        for transfers in SHORT[:9]:
            self.assertEqual([count_alike(transfers).__class__, alike_rank(transfers).__class__], [int, int])

    def test_arguments_by_name(self):
        self.assertEqual([count_alike(transfers=ABC), alike_rank(transfers=ABC)], [2, 1])
        self.assertEqual(nth_alike(index=1, transfers=ABC), ABC)
        self.assertEqual(least_alike(transfers=ABC), nth_alike(ABC, 0))


class Faults(unittest.TestCase):
    def test_single_transfers(self):
        for value in NO_TRANSFERS:
            check_error(self, InvalidTransfersError, are_free, value, (0, 1, 1))
            check_error(self, InvalidTransfersError, are_free, (0, 1, 1), value)
            check_error(self, InvalidTransfersError, are_free, value, value)

    def test_transfers(self):
        for value in WRONG_TRANSFERS:
            for function in (layers_of, least_alike, count_alike, alike_rank):
                check_error(self, InvalidTransfersError, function, value)
            for index in (0, None, -1):
                check_error(self, InvalidTransfersError, nth_alike, value, index)
            check_error(self, InvalidTransfersError, are_alike, value, T)
            check_error(self, InvalidTransfersError, are_alike, T, value)
            check_error(self, InvalidTransfersError, are_alike, value, value)

    def test_lists_of_another_length(self):
        for value in ([(0, 1, 0)], [(0, 1, 1)] * 25, (), None):
            check_error(self, InvalidTransfersError, are_alike, [], value)
            check_error(self, InvalidTransfersError, are_alike, [(2, 3, 4)] * 24, value)

    def test_they_need_no_volumes(self):
        for transfers in ([(0, 7, 10 ** 6)] * 3, [(7, 6, 1), (6, 7, 10 ** 6), (5, 4, 3)]):
            self.assertEqual(sum(len(layer) for layer in layers_of(transfers)), 3)
            self.assertIs(are_alike(transfers, transfers), True)
            self.assertEqual(nth_alike(transfers, alike_rank(transfers)), transfers)

    def test_too_many(self):
        for many in range(15, 25):
            transfers = some_list(many, many, 4)
            for function, more in [(count_alike, ()), (alike_rank, ()), (nth_alike, (0,)), (nth_alike, (None,)),
                                   (nth_alike, (-1,)), (nth_alike, (True,))]:
                error = check_error(self, TooManyError, function, transfers, *more)
                self.assertEqual((error.limit, error.limit.__class__), (14, int))
            self.assertEqual(len(least_alike(transfers)), many)
        for transfers in ([(0, 1, 1)] * 14, some_list(3, 14, 8)):
            self.assertEqual(nth_alike(transfers, alike_rank(transfers)), transfers)

    def test_an_index_that_is_none(self):
        for transfers, many in [([], 1), ([(0, 1, 1)], 1), (ABC, 2), ([(0, 1, 1)] * 14, 1),
                                ([(0, 1, k) for k in range(1, 15)], factorial(14))]:
            for index in NOT_INTEGERS + [-1, -2, many, many + 1, -many, 10 ** 39, [0]]:
                check_error(self, InvalidNumberError, nth_alike, transfers, index)


if __name__ == "__main__":
    unittest.main()
