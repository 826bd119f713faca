"""The vessels reckoned with Python's own fractions and in another way than the program does, to compare both."""

from fractions import Fraction
from itertools import permutations

from stirred.ratios import Ratio

MILLION = 10 ** 6


class Numbers:
    """Numbers that look random and are always the same ones."""

    def __init__(self, seed):
        self.state = seed

    def below(self, many):
        self.state = (self.state * 6364136223846793005 + 1442695040888963407) & (2 ** 64 - 1)
        return (self.state >> 33) % many

    def between(self, least, most):
        return least + self.below(most - least + 1)


def case(seed, vessels, many, most):
    """Return volumes up to a most one, and as many possible transfers as there can be, up to so many."""
    numbers = Numbers(seed)
    volumes = [numbers.between(2, most) for _ in range(vessels)]
    now, transfers = list(volumes), []
    while vessels > 1 and len(transfers) < many:
        giver, taker = numbers.below(vessels), numbers.below(vessels)
        if giver != taker and now[giver] > 1:
            amount = numbers.between(1, min(now[giver] - 1, MILLION))
            transfers.append((giver, taker, amount))
            now[giver] -= amount
            now[taker] += amount
    return volumes, transfers


def closed_case(seed, vessels, many, most):
    """Return volumes, and transfers behind which all volumes are as at first."""
    volumes, transfers = case(seed, vessels, many, most)
    now = volumes_behind(volumes, transfers)
    while now != volumes:
        giver = max(range(vessels), key=lambda k: now[k] - volumes[k])
        taker = min(range(vessels), key=lambda k: now[k] - volumes[k])
        amount = min(now[giver] - volumes[giver], volumes[taker] - now[taker], MILLION)
        transfers.append((giver, taker, amount))
        now = volumes_behind(volumes, transfers)
    return volumes, transfers


def volumes_behind(volumes, transfers):
    now = list(volumes)
    for giver, taker, amount in transfers:
        now[giver] -= amount
        now[taker] += amount
    return now


CASES = [case(seed, 1 + seed % 8, seed * 7 % 25, (2, 5, 30, 1000, MILLION)[seed % 5]) for seed in range(60)]

LONGEST = [case(seed, 8, 24, most) for seed, most in [(101, 9), (102, 1000), (103, MILLION)]]

# The greatest volumes and amounts: seven vessels are all but emptied into the last one and filled again.
GREATEST = ([MILLION] * 8, [(k, 7, MILLION - 1) for k in range(7)] + [(7, k, MILLION) for k in range(7)] +
            [(0, 7, MILLION), (7, 0, MILLION)] * 5)

ALL = CASES + LONGEST + [GREATEST]

CLOSED = [closed_case(seed, 1 + seed % 8, seed * 5 % 18, (2, 5, 30, 1000, MILLION)[seed % 5]) for seed in range(40)] + [
    closed_case(seed, 8, 17, most) for seed, most in [(201, 3), (202, 1000), (203, MILLION)]]


def shares_behind(volumes, transfers):
    """Return the shares as fractions: the giver keeps its own, the taker's new ones are a weighted mean."""
    many = range(len(volumes))
    now, shares = list(volumes), [[Fraction(int(k == vessel)) for k in many] for vessel in many]
    for giver, taker, amount in transfers:
        had, has = now[taker], now[taker] + amount
        shares[taker] = [(had * old + amount * new) / has for old, new in zip(shares[taker], shares[giver])]
        now[giver] -= amount
        now[taker] = has
    return shares


def contents_behind(volumes, transfers):
    """Return the contents as fractions."""
    shares = shares_behind(volumes, transfers)
    return [[share * volume for share in row] for row, volume in zip(shares, volumes_behind(volumes, transfers))]


def fractions_of(rows):
    """Return rows of fractions for rows of ratios."""
    return [[Fraction(ratio.top, ratio.bottom) for ratio in row] for row in rows]


def ratios_of(rows):
    """Return rows of ratios for rows of integers, fractions or strings of fractions."""
    return [[Ratio(Fraction(value).numerator, Fraction(value).denominator) for value in row] for row in rows]


def determinant_of(rows):
    """Return the determinant by its definition: the sum over all orders of the columns."""
    found = Fraction(0)
    for order in permutations(range(len(rows))):
        product = Fraction(1)
        for at, row in zip(order, rows):
            product *= row[at]
        turns = sum(order[i] > order[k] for i in range(len(order)) for k in range(i + 1, len(order)))
        found += -product if turns % 2 else product
    return found


def free(one, other):
    """Return whether two transfers are free, in the words of the document."""
    (i, j, t), (k, l, s) = one, other
    return j != k and i != l


def all_alike(transfers):
    """Return all lists that exchanges of free neighbors make of a list, in list order."""
    seen, open_ones = {tuple(transfers)}, [tuple(transfers)]
    while open_ones:
        word = open_ones.pop()
        for k in range(len(word) - 1):
            if free(word[k], word[k + 1]):
                other = word[:k] + (word[k + 1], word[k]) + word[k + 2:]
                if other not in seen:
                    seen.add(other)
                    open_ones.append(other)
    return [list(word) for word in sorted(seen)]


def some_list(seed, length, vessels, most=2):
    """Return a list of transfers between so many vessels with amounts up to a most one."""
    numbers, found = Numbers(seed), []
    while len(found) < length:
        giver, taker = numbers.below(vessels), numbers.below(vessels)
        if giver != taker:
            found.append((giver, taker, numbers.between(1, most)))
    return found


def walked(seed, transfers, steps):
    """Return a list behind many exchanges of free neighbors."""
    numbers, word = Numbers(seed), list(transfers)
    for _ in range(steps if len(word) > 1 else 0):
        k = numbers.below(len(word) - 1)
        if free(word[k], word[k + 1]):
            word[k:k + 2] = word[k + 1], word[k]
    return word
