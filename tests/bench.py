"""Labs as a second reckoning does them, to compare what both tell call by call."""

from fractions import Fraction

from stirred.labs import CappedLab, CappedSealedLab, Lab, SealedLab
from tests.model import MILLION, Numbers, contents_behind, volumes_behind
from tests.values import NOT_INTEGERS, Anything, nested, pair

CAP = 10 ** 7

# Each kind for volumes of 3 and 2 drops, so wide that it refuses nothing by itself.
KINDS = [lambda: Lab([3, 2]), lambda: CappedLab([3, 2], 5), lambda: SealedLab([3, 2], []),
         lambda: CappedSealedLab([3, 2], 5, [])]

# No transfers of vessels of 3 and 2 drops, as three arguments.
WRONG_POURS = [(0, 0, 1), (1, 1, 1), (0, 2, 1), (2, 0, 1), (0, 7, 1), (7, 0, 1), (2, 3, 1), (0, 8, 1), (0, -1, 1),
               (-1, 0, 1), (0, 1, 0), (0, 1, -1), (0, 1, MILLION + 1), (0, 1, 10 ** 30), (10 ** 30, 1, 1),
               (0, 10 ** 30, 1), (True, 0, 1), (False, 1, 1), (0, True, 1), (1, False, 1), (0, 1, True),
               ((0,), 1, 1), (0, [1], 1), (0, 1, nested(50)), (Anything(), 1, 1), (0, Anything(), 1),
               (0, 1, Anything())] + [
    (value, 1, 1) for value in NOT_INTEGERS] + [(0, value, 1) for value in NOT_INTEGERS] + [
    (0, 1, value) for value in NOT_INTEGERS]


class Bench:
    """What a lab has to tell: a list of transfers, and beside it the caps and the sealed vessels."""

    def __init__(self, volumes, cap=None, sealed=None):
        self.first, self.cap, self.sealed, self.done = list(volumes), cap, sealed, []

    def lab(self):
        """Return a new lab of the kind that this one is."""
        if self.cap is None:
            return Lab(self.first) if self.sealed is None else SealedLab(self.first, self.sealed)
        if self.sealed is None:
            return CappedLab(self.first, self.cap)
        return CappedSealedLab(self.first, self.cap, self.sealed)

    def volumes(self):
        return volumes_behind(self.first, self.done)

    def factor(self):
        found, now = Fraction(1), list(self.first)
        for giver, taker, amount in self.done:
            found *= Fraction(now[taker], now[taker] + amount)
            now[taker] += amount
            now[giver] -= amount
        return found

    def contents(self):
        return contents_behind(self.first, self.done)

    def refusal(self, transfer):
        """Return the name of the error that the transfer raises, or None."""
        if not is_one(transfer, len(self.first)):
            return "InvalidTransfersError"
        giver, taker, amount = transfer
        now = self.volumes()
        if amount >= now[giver]:
            return "TooMuchError"
        if {giver, taker} & set(self.sealed or []):
            return "SealedError"
        if self.cap is not None and now[taker] + amount > self.cap:
            return "OverfullError"
        return "FullError" if len(self.done) == 24 else None

    def described(self):
        return [f"vessels {len(self.first)}"] + ([] if self.cap is None else [f"cap {self.cap}"]) + (
            [] if self.sealed is None else [f"sealed {len(self.sealed)}"])


def is_one(transfer, many):
    """Return whether a value is a transfer between so many vessels."""
    if type(transfer) is not tuple or len(transfer) != 3 or any(type(number) is not int for number in transfer):
        return False
    giver, taker, amount = transfer
    return giver != taker and 0 <= min(giver, taker) and max(giver, taker) < many and 1 <= amount <= MILLION


def some_bench(seed):
    """Return a bench of one of the four kinds, with caps and sealed vessels that matter."""
    numbers = Numbers(seed)
    many = 1 + numbers.below(8)
    most = (3, 9, 50, 1000, MILLION)[seed % 5]
    volumes = [numbers.between(1, most) for _ in range(many)]
    cap = min(max(volumes) + numbers.below(2 * most), CAP) if seed % 4 in (1, 3) else None
    sealed = [vessel for vessel in range(many) if numbers.below(4) == 0][::-1] if seed % 4 in (2, 3) else None
    return Bench(volumes, cap, sealed)


def some_transfer(numbers, bench):
    """Return a transfer that is often possible, and sometimes is none."""
    many = len(bench.first)
    if many > 1:
        for _ in range(8):
            giver, taker = numbers.below(many), numbers.below(many)
            now = bench.volumes()
            if giver != taker and now[giver] > 1:
                return giver, taker, numbers.between(1, min(now[giver] - 1 + (numbers.below(9) == 0), MILLION))
    return [(0, 1, 1), (0, 0, 1), (0, many, 1), (1, 0, MILLION), (0, True, 1), (many - 1, 0, 0)][numbers.below(6)]


def told_by(lab):
    """Return all that a lab tells, to see later whether it has changed."""
    many = len(lab.first_volumes)
    return (lab.first_volumes, lab.volumes, lab.done, len(lab), pair(lab.factor), lab.described(), lab.tried(),
            [[pair(lab.holds(vessel).amount_of(k)) for k in range(many)] for vessel in range(many)])


def told_by_bench(bench):
    """Return what a lab like this has to tell."""
    factor = bench.factor()
    return (bench.first, bench.volumes(), bench.done, len(bench.done), (factor.numerator, factor.denominator),
            bench.described(), bench.volumes(),
            [[Fraction(amount).as_integer_ratio() for amount in row] for row in bench.contents()])
