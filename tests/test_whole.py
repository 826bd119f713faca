"""Points 2 to 25 together: all modules tell the same, also in parts, with other numbers and in other measures."""

import unittest
from itertools import product

from stirred.alike import (alike_rank, are_alike, count_alike, layers_of, least_alike, nth_alike)
from stirred.exchange import are_rings, foreign_in, is_closed, rings_of
from stirred.factors import determinant, factor_of
from stirred.labs import CappedLab, Lab, SealedLab
from stirred.mixtures import Mixture
from stirred.origins import is_origin, origin_of, poured
from stirred.pairs import difference_after, plan_for
from stirred.ratios import Ratio, total
from stirred.spread import brought_by, plan_for_all, substances_in
from stirred.text import format_ratio, format_rows, format_transfers, parse_ratio, parse_transfers, table_of
from stirred.trials import passed, volumes_in_trial
from stirred.vessels import contents_after, is_possible, shares_after, volumes_after, walk_contents
from tests.model import ALL, CLOSED, MILLION, all_alike, case, walked

SOME = ALL[::3]
SMALL = [case(seed, 2 + seed % 7, 1 + seed % 24, (3, 9, 40)[seed % 3]) for seed in range(800, 830)]
PAIRS = [case(seed, 2, 1 + seed % 24, (3, 1000, MILLION)[seed % 3]) for seed in range(900, 915)]


def lab_of(volumes, transfers):
    lab = Lab(volumes)
    for giver, taker, amount in transfers:
        lab.pour(giver, taker, amount)
    return lab


def turned(many):
    """Return new numbers for so many vessels: the one at each index is the old number's new one."""
    return [(3 * vessel + 1) % many if many % 3 else many - 1 - vessel for vessel in range(many)]


def with_new_numbers(volumes, transfers):
    new = turned(len(volumes))
    return placed(volumes, new), [(new[giver], new[taker], amount) for giver, taker, amount in transfers]


def placed(items, new):
    """Return the items in the order of the new numbers."""
    return [items[new.index(vessel)] for vessel in range(len(items))]


def times(scale, volumes, transfers):
    return [scale * volume for volume in volumes], [(giver, taker, scale * t) for giver, taker, t in transfers]


def scaled_rows(scale, rows):
    return [[amount * Ratio(scale) for amount in row] for row in rows]


class TheSame(unittest.TestCase):
    def test_a_lab_and_the_functions(self):
        for volumes, transfers in SOME:
            lab = lab_of(volumes, transfers)
            rows = contents_after(volumes, transfers)
            self.assertEqual([lab.volumes, lab.done, lab.factor],
                             [volumes_after(volumes, transfers), transfers, factor_of(volumes, transfers)])
            held, vessels = [lab.holds(vessel) for vessel in range(len(volumes))], range(len(volumes))
            self.assertEqual([[mixture.amount_of(k) for k in vessels] for mixture in held], rows)
            self.assertEqual([[mixture.share_of(k) for k in vessels] for mixture in held],
                             shares_after(volumes, transfers))
            self.assertEqual([mixture.substances for mixture in held], substances_in(volumes, transfers))
            self.assertEqual([mixture.volume for mixture in held], [Ratio(volume) for volume in lab.volumes])
            self.assertEqual(list(walk_contents(volumes, transfers))[-1], rows)
            self.assertEqual(lab.volumes == lab.first_volumes, is_closed(volumes, transfers))

    def test_determinants(self):
        for volumes, transfers in SOME:
            self.assertEqual(determinant(shares_after(volumes, transfers)), lab_of(volumes, transfers).factor)

    def test_trials_and_tries(self):
        for volumes, transfers in SOME:
            lab = Lab(volumes)
            wanted = volumes_after(volumes, transfers)
            self.assertEqual([volumes_in_trial(lab, transfers), passed(lab, transfers)], [wanted, len(transfers)])
            self.assertEqual(lab.tried(*transfers), wanted)

    def test_strings(self):
        for volumes, transfers in SOME:
            text = format_transfers(transfers)
            self.assertEqual(lab_of(volumes, parse_transfers(text)), lab_of(volumes, transfers))
            rows = contents_after(volumes, transfers)
            self.assertEqual(format_rows(rows), [" ".join([format_ratio(ratio) for ratio in row]) for row in rows])
            for row in rows:
                for ratio in row:
                    if max(abs(ratio.top), ratio.bottom) < 10 ** 31:
                        self.assertEqual(parse_ratio(format_ratio(ratio)), ratio)
            lab = Lab(volumes)
            for line, (giver, taker, amount) in zip(table_of(volumes, transfers), transfers):
                lab.pour(giver, taker, amount)
                self.assertEqual(line.split(), [str(number) for number in (
                    len(lab) - 1, giver, taker, amount, lab.volumes[giver], lab.volumes[taker])])

    def test_contents_and_origins(self):
        for volumes, transfers in SOME:
            pure, rows = contents_after(volumes, []), contents_after(volumes, transfers)
            self.assertEqual([poured(volumes, transfers, pure), origin_of(volumes, transfers, rows)], [rows, pure])
            self.assertIs(is_origin(volumes, transfers, rows, pure), True)

    def test_mixtures_add_up_to_all_that_was_there(self):
        for volumes, transfers in SOME:
            lab = lab_of(volumes, transfers)
            together = Mixture({})
            for vessel in range(len(volumes)):
                together = together + lab.holds(vessel)
            self.assertEqual(together, Mixture({k: Ratio(volume) for k, volume in enumerate(volumes)}))

    def test_what_a_transfer_takes(self):
        for volumes, transfers in SOME[::3]:
            lab = Lab(volumes)
            for giver, taker, amount in transfers:
                part = Ratio(amount, lab.volumes[giver])
                wanted = lab.holds(taker) + lab.holds(giver) * part
                kept = lab.holds(giver) * (Ratio(1) - part)
                lab.pour(giver, taker, amount)
                self.assertEqual([lab.holds(taker), lab.holds(giver)], [wanted, kept])

    def test_groups_and_what_single_vessels_hold(self):
        for volumes, transfers in SOME[::2]:
            lab = lab_of(volumes, transfers)
            for vessel in range(len(volumes)):
                got, lost = foreign_in(volumes, transfers, [vessel])
                self.assertEqual(got, lab.holds(vessel).volume - lab.holds(vessel).amount_of(vessel))
                self.assertEqual(lost, Ratio(volumes[vessel]) - lab.holds(vessel).amount_of(vessel))

    def test_rings_and_groups(self):
        for volumes, transfers in CLOSED[::2]:
            rings = rings_of(volumes, transfers)
            for vessel in range(len(volumes)):
                got, _ = foreign_in(volumes, transfers, [vessel])
                self.assertEqual(total([amount for ring, amount in rings if vessel in ring]), got)

    def test_what_brought_a_substance(self):
        for volumes, transfers in SMALL[::4]:
            lab = Lab(volumes)
            first = {}
            for index, transfer in enumerate(transfers):
                lab.pour(*transfer)
                for vessel, substance in product(range(len(volumes)), repeat=2):
                    if substance in lab.holds(vessel) and vessel != substance:
                        first.setdefault((vessel, substance), index)
            for vessel, substance in product(range(len(volumes)), repeat=2):
                self.assertEqual(brought_by(volumes, transfers, vessel, substance), first.get((vessel, substance)))

    def test_plans_in_labs(self):
        for volumes in ([2, 2], [3, 2, 2], [MILLION] * 8, [2] * 8):
            lab = lab_of(volumes, plan_for_all(volumes))
            self.assertEqual([len(lab.holds(vessel)) for vessel in range(len(volumes))], [len(volumes)] * len(volumes))

    def test_pairs(self):
        for volumes, transfers in PAIRS:
            lab = lab_of(volumes, transfers)
            self.assertEqual(difference_after(volumes, transfers), lab.factor)
            self.assertEqual(lab.holds(0).share_of(0) - lab.holds(1).share_of(0), lab.factor)


class InTwoParts(unittest.TestCase):
    def test_contents_and_volumes(self):
        for volumes, transfers in SMALL:
            for cut in (0, len(transfers) // 3, len(transfers)):
                half = volumes_after(volumes, transfers[:cut])
                self.assertEqual(volumes_after(half, transfers[cut:]), volumes_after(volumes, transfers))
                rows = poured(half, transfers[cut:], contents_after(volumes, transfers[:cut]))
                self.assertEqual(rows, contents_after(volumes, transfers))
                back = origin_of(half, transfers[cut:], rows)
                self.assertEqual(back, contents_after(volumes, transfers[:cut]))
                self.assertEqual(table_of(volumes, transfers)[:cut], table_of(volumes, transfers[:cut]))

    def test_factors(self):
        for volumes, transfers in SMALL:
            cut = len(transfers) // 2
            half = volumes_after(volumes, transfers[:cut])
            self.assertEqual(factor_of(volumes, transfers[:cut]) * factor_of(half, transfers[cut:]),
                             factor_of(volumes, transfers))

    def test_labs(self):
        for volumes, transfers in SMALL:
            cut = len(transfers) // 2
            lab = lab_of(volumes, transfers[:cut])
            self.assertEqual(lab.tried(*transfers[cut:]), volumes_after(volumes, transfers))
            self.assertEqual(volumes_in_trial(lab, transfers[cut:]), volumes_after(volumes, transfers))
            for transfer in transfers[cut:]:
                lab.pour(*transfer)
            self.assertEqual(lab, lab_of(volumes, transfers))

    def test_alike_parts(self):
        for seed, (_, transfers) in enumerate(SMALL):
            cut = len(transfers) // 2
            other = walked(seed, transfers[:cut], 100) + walked(seed + 1, transfers[cut:], 100)
            self.assertIs(are_alike(transfers, other), True)

    def test_strings(self):
        for _, transfers in SMALL:
            cut = len(transfers) // 2
            both = [format_transfers(part) for part in (transfers[:cut], transfers[cut:]) if part]
            self.assertEqual(" ".join(both), format_transfers(transfers))


class NewNumbers(unittest.TestCase):
    def test_the_numbers_are_new_ones(self):
        for many in range(2, 9):
            self.assertEqual(sorted(turned(many)), list(range(many)))
            self.assertNotEqual(turned(many), list(range(many)))

    def test_contents_and_factors(self):
        for volumes, transfers in SMALL:
            new = turned(len(volumes))
            other = with_new_numbers(volumes, transfers)
            self.assertEqual(volumes_after(*other), placed(volumes_after(volumes, transfers), new))
            self.assertEqual(factor_of(*other), factor_of(volumes, transfers))
            rows = [placed(row, new) for row in contents_after(volumes, transfers)]
            self.assertEqual(contents_after(*other), placed(rows, new))

    def test_spread_and_groups(self):
        for volumes, transfers in SMALL:
            new = turned(len(volumes))
            other = with_new_numbers(volumes, transfers)
            held = [sorted([new[k] for k in row]) for row in substances_in(volumes, transfers)]
            self.assertEqual(substances_in(*other), placed(held, new))
            for vessel, substance in product(range(len(volumes)), repeat=2):
                self.assertEqual(brought_by(*other, new[vessel], new[substance]),
                                 brought_by(volumes, transfers, vessel, substance))
            group = list(range(len(volumes) // 2 + 1))
            self.assertEqual(foreign_in(*other, [new[vessel] for vessel in group]),
                             foreign_in(volumes, transfers, group))

    def test_rings(self):
        for volumes, transfers in CLOSED:
            if len(volumes) > 1:
                new = turned(len(volumes))
                other = with_new_numbers(volumes, transfers)
                rings = []
                for ring, amount in rings_of(volumes, transfers):
                    ring = [new[vessel] for vessel in ring]
                    at = ring.index(min(ring))
                    rings.append((tuple(ring[at:] + ring[:at]), amount))
                self.assertIs(are_rings(*other, rings), True)

    def test_alike_lists(self):
        for _, transfers in SMALL:
            other = with_new_numbers([1] * 8, transfers)[1]
            self.assertEqual([len(layer) for layer in layers_of(other)], [len(layer) for layer in layers_of(transfers)])
            if len(transfers) <= 14:
                self.assertEqual(count_alike(other), count_alike(transfers))

    def test_labs(self):
        for volumes, transfers in SMALL:
            new = turned(len(volumes))
            lab, other = lab_of(volumes, transfers), lab_of(*with_new_numbers(volumes, transfers))
            self.assertEqual([other.volumes, other.factor], [placed(lab.volumes, new), lab.factor])

    def test_pairs(self):
        for volumes, transfers in PAIRS:
            self.assertEqual(difference_after(*with_new_numbers(volumes, transfers)),
                             difference_after(volumes, transfers))


class SoManyTimes(unittest.TestCase):
    def test_contents_shares_and_factors(self):
        for volumes, transfers in SMALL:
            for scale in (2, 7, 1000):
                other = times(scale, volumes, transfers)
                rows = contents_after(volumes, transfers)
                self.assertEqual(contents_after(*other), scaled_rows(scale, rows))
                self.assertEqual(shares_after(*other), shares_after(volumes, transfers))
                self.assertEqual(factor_of(*other), factor_of(volumes, transfers))
                self.assertEqual(volumes_after(*other), [scale * v for v in volumes_after(volumes, transfers)])
                self.assertEqual(substances_in(*other), substances_in(volumes, transfers))

    def test_exchange(self):
        for volumes, transfers in CLOSED:
            if max(volumes + [0]) <= 1000 and max([amount for _, _, amount in transfers] + [0]) <= 1000:
                other = times(1000, volumes, transfers)
                rings = [(ring, amount * Ratio(1000)) for ring, amount in rings_of(volumes, transfers)]
                self.assertIs(are_rings(*other, rings), True)
                for vessel in range(len(volumes)):
                    wanted = tuple(ratio * Ratio(1000) for ratio in foreign_in(volumes, transfers, [vessel]))
                    self.assertEqual(foreign_in(*other, [vessel]), wanted)

    def test_labs_and_alike_lists(self):
        for volumes, transfers in SMALL:
            other = times(3, volumes, transfers)
            lab = lab_of(volumes, transfers)
            self.assertEqual([lab_of(*other).volumes, lab_of(*other).factor],
                             [[3 * volume for volume in lab.volumes], lab.factor])
            self.assertEqual(layers_of(other[1]), [times(3, [], layer)[1] for layer in layers_of(transfers)])
            if len(transfers) <= 14:
                self.assertEqual([count_alike(other[1]), alike_rank(other[1])],
                                 [count_alike(transfers), alike_rank(transfers)])

    def test_plans_for_pairs(self):
        for volumes in ([3, 2], [5, 8], [1, 1]):
            for wanted in (Ratio(1, 2), Ratio(2, 7), Ratio(9, 10)):
                scale, amount = plan_for(volumes, wanted)
                self.assertEqual(plan_for([scale * volume for volume in volumes], wanted), (1, amount))
                self.assertEqual(plan_for([7 * scale * volume for volume in volumes], wanted), (1, 7 * amount))


class AlikeInLabs(unittest.TestCase):
    def test_a_lab_that_does_a_list_does_each_alike_one(self):
        for volumes, transfers in SMALL:
            lab = lab_of(volumes, transfers)
            others = [walked(seed, transfers, 200) for seed in range(4)] + [least_alike(transfers)]
            if len(transfers) <= 6:
                others = all_alike(transfers)
            for other in others[:60]:
                self.assertEqual(passed(Lab(volumes), other), len(transfers))
                same = lab_of(volumes, other)
                self.assertEqual([same.volumes, same.factor], [lab.volumes, lab.factor])
                for vessel in range(len(volumes)):
                    self.assertEqual(same.holds(vessel), lab.holds(vessel))
                self.assertEqual(same == lab, other == transfers)

    def test_labs_of_other_kinds(self):
        # What a vessel takes and what it gives keeps its order, so a cap is kept by all of them or by none.
        for volumes, transfers in SMALL:
            most = max([max(volumes_after(volumes, transfers[:k])) for k in range(len(transfers) + 1)])
            for cap in {max(volumes), (max(volumes) + most) // 2, most}:
                full = passed(CappedLab(volumes, cap), transfers) == len(transfers)
                for seed in range(4):
                    other = walked(seed, transfers, 200)
                    self.assertEqual(passed(CappedLab(volumes, cap), other) == len(other), full)
                    self.assertEqual(passed(SealedLab(volumes, [0]), other) == len(other),
                                     passed(SealedLab(volumes, [0]), transfers) == len(transfers))

    def test_numbered_ones(self):
        for volumes, transfers in SMALL:
            if len(transfers) <= 14:
                many = count_alike(transfers)
                for index in (0, many // 2, many - 1):
                    other = nth_alike(transfers, index)
                    self.assertIs(is_possible(volumes, other), True)
                    self.assertEqual(volumes_in_trial(Lab(volumes), other), volumes_after(volumes, transfers))


if __name__ == "__main__":
    unittest.main()
