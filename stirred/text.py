"""Text: ratios, rows and transfers as strings, and back."""

from stirred.errors import InvalidFormatError, InvalidRatioError, InvalidRowsError
from stirred.ratios import Ratio, is_ratio
from stirred.rows import is_rows
from stirred.vessels import check_transfers, is_transfers, volumes_by_step

MOST_DIGITS = 31


def format_ratio(ratio):
    """Return a ratio as a string."""
    if not is_ratio(ratio):
        raise InvalidRatioError("the value is not a ratio")
    if ratio.bottom == 1:
        return str(ratio.top)
    return f"{ratio.top}/{ratio.bottom}"


def format_rows(rows):
    """Return a list with a string for each row."""
    if not is_rows(rows):
        raise InvalidRowsError("rows are 1 to 8 lists of equally many ratios, 1 to 8 of them")
    return [" ".join([format_ratio(ratio) for ratio in row]) for row in rows]


def format_transfers(transfers):
    """Return transfers as a string."""
    check_transfers(transfers)
    return " ".join([f"{giver}>{taker}:{amount}" for giver, taker, amount in transfers])


def parse_ratio(text):
    """Return the ratio that a string writes."""
    _check_string(text)
    top, slash, bottom = text.partition("/")
    whole = _number_of(top.removeprefix("-"))
    parts = _number_of(bottom) if slash else 1
    if parts == 0:
        raise InvalidFormatError("the bottom is 0")
    ratio = Ratio(-whole if top.startswith("-") else whole, parts)
    # Each ratio has one string: not in lowest terms, with a bottom of 1 or as -0 it is another one.
    if format_ratio(ratio) != text:
        raise InvalidFormatError("the ratio is not written as it has to be")
    return ratio


def parse_transfers(text):
    """Return the transfers that a string writes."""
    _check_string(text)
    transfers = [_transfer_of(word) for word in text.split(" ")] if text else []
    if not is_transfers(transfers):
        raise InvalidFormatError("a word is not a transfer, or there are too many words")
    return transfers


def table_of(volumes, transfers):
    """Return a list with a string for each transfer: what is poured, and the volumes behind it."""
    behind = volumes_by_step(volumes, transfers)[1:]
    return [f"{index:>2}{giver:>3}{taker:>3}{amount:>8}{now[giver]:>8}{now[taker]:>8}"
            for index, (now, (giver, taker, amount)) in enumerate(zip(behind, transfers))]


def _transfer_of(word):
    """Return the tuple of the three numbers that a word writes."""
    giver, _, rest = word.partition(">")
    taker, _, amount = rest.partition(":")
    return _number_of(giver), _number_of(taker), _number_of(amount)


def _number_of(digits):
    """Return the integer from 0 on that some digits write."""
    if not digits.isascii() or not digits.isdigit() or len(digits) > MOST_DIGITS:
        raise InvalidFormatError("a number is 1 to 31 digits")
    if digits.startswith("0") and digits != "0":
        raise InvalidFormatError("a number has no leading zeros")
    return int(digits)


def _check_string(text):
    """Raise an error unless a value is a string."""
    if not isinstance(text, str):
        raise InvalidFormatError("the value is not a string")
