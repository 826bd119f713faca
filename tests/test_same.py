"""Points 8, 10, 11 and 19: what alike lists have in common, and where another order does something else."""

import unittest
from itertools import permutations, product

from stirred.alike import are_alike, are_free, layers_of, least_alike, nth_alike
from stirred.factors import factor_of, mixture_for
from stirred.spread import brought_by, substances_in
from stirred.vessels import contents_after, is_possible, shares_after, volumes_after
from tests.model import ALL, CASES, CLOSED, all_alike, case, free, some_list, walked

# Lists for up to six transfers of which all alike ones are looked at.
SMALL = [case(seed, 2 + seed % 4, seed % 7, (3, 9, 1000)[seed % 3]) for seed in range(700, 740)]


def told_of(volumes, transfers):
    """Return all that alike lists have in common."""
    return (volumes_after(volumes, transfers), contents_after(volumes, transfers), shares_after(volumes, transfers),
            factor_of(volumes, transfers), substances_in(volumes, transfers))


def layers_together(transfers):
    return [transfer for layer in layers_of(transfers) for transfer in layer]


class AlikeLists(unittest.TestCase):
    def test_all_of_some_small_ones(self):
        for volumes, transfers in SMALL:
            wanted = told_of(volumes, transfers)
            for other in all_alike(transfers)[::3]:
                self.assertIs(is_possible(volumes, other), True)
                self.assertEqual(told_of(volumes, other), wanted)

    def test_long_ones(self):
        for seed, (volumes, transfers) in enumerate(ALL + CLOSED):
            other = walked(seed, transfers, 1000)
            self.assertIs(is_possible(volumes, other), True)
            self.assertEqual(told_of(volumes, other), told_of(volumes, transfers))

    def test_the_least_one_and_the_layers(self):
        for volumes, transfers in ALL + CLOSED:
            for other in (least_alike(transfers), layers_together(transfers)):
                self.assertIs(is_possible(volumes, other), True)
                self.assertEqual(told_of(volumes, other), told_of(volumes, transfers))

    def test_possible_ones_are_all_possible(self):
        seen = set()
        for seed in range(60):
            transfers = some_list(seed, 2 + seed % 5, 3, 2)
            for volumes in ([2, 2, 2], [3, 1, 4], [2, 5, 1]):
                wanted = is_possible(volumes, transfers)
                seen.add(wanted)
                for other in all_alike(transfers)[::5]:
                    self.assertIs(is_possible(volumes, other), wanted)
        self.assertEqual(seen, {True, False})

    def test_no_vessel_holds_a_mixture_of_the_others(self):
        for volumes, transfers in SMALL[::5]:
            other = nth_alike(transfers, 0)
            for vessel in range(len(volumes)):
                self.assertIs(mixture_for(shares_after(volumes, other), vessel), None)

    def test_the_same_transfer_brings_a_substance(self):
        # Its index may be another one: the transfer is not.
        for seed, (volumes, transfers) in enumerate(CASES[::4]):
            other = walked(seed, transfers, 300)
            for vessel, substance in product(range(len(volumes)), repeat=2):
                one, same = (brought_by(volumes, word, vessel, substance) for word in (transfers, other))
                self.assertEqual(one is None, same is None)


class OtherOrders(unittest.TestCase):
    def test_one_way(self):
        seen = 0
        for volumes in ([4, 4, 4, 4], [2, 9, 5, 3]):
            for one, other in product(permutations(range(4), 2), repeat=2):
                for amounts in ((1, 1), (1, 3), (3, 2)):
                    transfers = [one + amounts[:1], other + amounts[1:]]
                    if (one[1] == other[0]) == (other[1] == one[0]):
                        continue
                    if is_possible(volumes, transfers) and is_possible(volumes, transfers[::-1]):
                        self.assertNotEqual(contents_after(volumes, transfers), contents_after(volumes, transfers[::-1]))
                        seen += 1
        self.assertGreater(seen, 100)

    def test_one_way_within_long_lists(self):
        seen = 0
        for volumes, transfers in ALL:
            for k in range(len(transfers) - 1):
                one, other = transfers[k:k + 2]
                turned = transfers[:k] + [other, one] + transfers[k + 2:]
                if (one[1] == other[0]) != (other[1] == one[0]) and is_possible(volumes, turned):
                    self.assertNotEqual(contents_after(volumes, transfers), contents_after(volumes, turned))
                    self.assertIs(are_alike(transfers, turned), False)
                    seen += 1
        self.assertGreater(seen, 50)

    def test_there_and_back_can_do_the_same(self):
        transfers = [(0, 1, 1), (1, 0, 1)]
        self.assertIs(are_alike(transfers, transfers[::-1]), False)
        self.assertEqual(contents_after([2, 2], transfers), contents_after([2, 2], transfers[::-1]))
        self.assertNotEqual(contents_after([3, 2], transfers), contents_after([3, 2], transfers[::-1]))

    def test_what_is_free_is_told_by_the_contents(self):
        # Where neighbors are free, both orders do the same for any volumes for which one is possible.
        for one, other in product(permutations(range(3), 2), repeat=2):
            transfers = [one + (1,), other + (2,)]
            if are_free(*transfers):
                self.assertIs(free(*transfers), True)
                for volumes in ([4, 4, 4], [7, 4, 5]):
                    self.assertEqual(contents_after(volumes, transfers), contents_after(volumes, transfers[::-1]))


if __name__ == "__main__":
    unittest.main()
