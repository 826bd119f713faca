"""Alike: lists of transfers that do the same by exchanges of neighbors that are free."""

from stirred.checks import is_whole_within
from stirred.errors import InvalidNumberError, InvalidTransfersError, TooManyError
from stirred.vessels import check_transfers, is_transfer

MOST_COUNTED = 14


def are_free(one, other):
    """Return whether two neighboring transfers may change places."""
    if not is_transfer(one) or not is_transfer(other):
        raise InvalidTransfersError("a transfer is a tuple of giver, taker and amount")
    return _are_free(one, other)


def are_alike(transfers, other):
    """Return whether exchanges of free neighbors lead from one list to the other."""
    return least_alike(transfers) == least_alike(other)


def layers_of(transfers):
    """Return the list of the layers, each one in ascending order."""
    check_transfers(transfers)
    layers = []
    rest = transfers
    while rest:
        firsts = _indices_of_first(rest)
        layers.append(sorted([rest[at] for at in firsts]))
        rest = [transfer for at, transfer in enumerate(rest) if at not in firsts]
    return layers


def count_alike(transfers):
    """Return the number of the different lists that are alike to a list."""
    return _ways(_checked_needs(transfers), 0, {})


def nth_alike(transfers, index):
    """Return the list with this index among the ascending lists that are alike to a list."""
    needs = _checked_needs(transfers)
    known = {}
    if not is_whole_within(index, 0, _ways(needs, 0, known) - 1):
        raise InvalidNumberError("the index is not one of a list that is alike")
    found = []
    placed = 0
    left = index
    while len(found) < len(transfers):
        ascending = sorted(_next_ones(needs, placed), key=lambda at: transfers[at])
        ways = [_ways(needs, placed | (1 << at), known) for at in ascending]
        place, left = _place_of(left, ways)
        placed = placed | (1 << ascending[place])
        found.append(transfers[ascending[place]])
    return found


def alike_rank(transfers):
    """Return the index of a list among the ascending lists that are alike to it."""
    needs = _checked_needs(transfers)
    known = {}
    rank = 0
    placed = 0
    for at, transfer in enumerate(transfers):
        less = [other for other in _next_ones(needs, placed) if transfers[other] < transfer]
        rank = rank + sum([_ways(needs, placed | (1 << other), known) for other in less])
        placed = placed | (1 << at)
    return rank


def least_alike(transfers):
    """Return the least list that is alike to a list."""
    check_transfers(transfers)
    found = []
    rest = list(transfers)
    while rest:
        least = min([rest[at] for at in _indices_of_first(rest)])
        found.append(least)
        # If one of some equal transfers can come first, the first one of them can.
        rest.remove(least)
    return found


def _are_free(one, other):
    """Return whether two transfers are free."""
    return one[1] != other[0] and one[0] != other[1]


def _indices_of_first(transfers):
    """Return the indices of the transfers that are free with all transfers ahead of them."""
    return [at for at, transfer in enumerate(transfers)
            if all([_are_free(ahead, transfer) for ahead in transfers[:at]])]


def _checked_needs(transfers):
    """Return for each transfer those that have to stand ahead of it, unless there are too many to count.

    Some of the transfers are the bits of an integer here and below: such a number can be the key of a dict.
    """
    check_transfers(transfers)
    if len(transfers) > MOST_COUNTED:
        raise TooManyError(MOST_COUNTED)
    return [sum([1 << ahead for ahead in range(at) if _stays_ahead(transfers[ahead], transfer)])
            for at, transfer in enumerate(transfers)]


def _stays_ahead(one, other):
    """Return whether a transfer stays ahead of a later one in all lists that are told apart."""
    # Equal transfers are free, but an exchange of them makes no other list.
    return one == other or not _are_free(one, other)


def _next_ones(needs, placed):
    """Return the indices of the transfers that can stand next behind those that are placed."""
    return [at for at, need in enumerate(needs) if not (placed >> at) & 1 and (need & placed) == need]


def _ways(needs, placed, known):
    """Return in how many orders the transfers that are not placed can follow; known keeps what was found."""
    if placed not in known:
        following = [_ways(needs, placed | (1 << at), known) for at in _next_ones(needs, placed)]
        known[placed] = sum(following) if following else 1
    return known[placed]


def _place_of(index, ways):
    """Return the place in which an index falls if each place has so many ways, and which one of these it is."""
    place = 0
    left = index
    while left >= ways[place]:
        left = left - ways[place]
        place = place + 1
    return place, left
