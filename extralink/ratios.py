"""Exact fractions."""

from math import gcd

from extralink.errors import BadCount, BadText, OutOfRange
from extralink.naming import DIGITS

LONGEST_NUMBER = 9
PIECE_DIGITS = 64
PIECE = 10 ** 64


class Ratio:
    """The fraction of two integers, kept in lowest terms."""

    def __init__(self, top, bottom=1):
        if bottom == 0:
            raise OutOfRange(bottom)
        common = gcd(top, bottom)
        # A negative divisor moves the sign of the bottom into the top.
        if bottom < 0:
            common = -common
        self._top = top // common
        self._bottom = bottom // common

    @classmethod
    def read(cls, text):
        """Return the ratio that a text such as "-3/2" or "4" tells."""
        front, stroke, back = text.removeprefix("-").partition("/")
        if stroke == "":
            back = "1"
        if not is_number(front) or not is_number(back) or back == "0":
            raise BadText(text)
        if text.startswith("-"):
            return cls(-int(front), int(back))
        return cls(int(front), int(back))

    @property
    def top(self):
        return self._top

    @property
    def bottom(self):
        return self._bottom

    @property
    def sign(self):
        if self._top < 0:
            return -1
        return 1 if self._top > 0 else 0

    def over(self, value):
        """Return the quotient of this ratio and a ratio or an integer."""
        divisor = as_ratio(value)
        if divisor.top == 0:
            raise OutOfRange(value)
        return Ratio(self._top * divisor.bottom, self._bottom * divisor.top)

    def below(self, value):
        """Return True if this ratio is less than a ratio or an integer."""
        other = as_ratio(value)
        return self._top * other.bottom < other.top * self._bottom

    def __neg__(self):
        return Ratio(-self._top, self._bottom)

    def __add__(self, other):
        addend = as_ratio(other)
        top = self._top * addend.bottom + addend.top * self._bottom
        return Ratio(top, self._bottom * addend.bottom)

    def __radd__(self, other):
        return self + other

    def __sub__(self, other):
        return self + -other

    def __rsub__(self, other):
        return -self + other

    def __mul__(self, other):
        factor = as_ratio(other)
        return Ratio(self._top * factor.top, self._bottom * factor.bottom)

    def __rmul__(self, other):
        return self * other

    def __eq__(self, other):
        return isinstance(other, Ratio) and self._top == other._top and self._bottom == other._bottom

    def __str__(self):
        if self._bottom == 1:
            return f"{numeral(self._top)}"
        return f"{numeral(self._top)}/{numeral(self._bottom)}"


def as_ratio(value):
    """Return an integer or a ratio as a ratio."""
    if isinstance(value, Ratio):
        return value
    return Ratio(value)


def least(values):
    """Return the least one of some ratios and integers, as a ratio."""
    if len(values) == 0:
        raise BadCount(0)
    best = as_ratio(values[0])
    for value in values[1:]:
        ratio = as_ratio(value)
        if ratio.below(best):
            best = ratio
    return best


def greatest(values):
    """Return the greatest one of some ratios and integers, as a ratio."""
    return -least([-value for value in values])


def is_number(text):
    """Return True if the text is a number as it may stand before or behind a stroke."""
    if not 1 <= len(text) <= LONGEST_NUMBER:
        return False
    if text[0] == "0" and text != "0":
        return False
    return all([char in DIGITS for char in text])


def numeral(number):
    """Return the text of an integer of any size."""
    # Python's own str refuses integers of more than 4300 digits, and sums and
    # products of ratios may have more, so a long one is written in pieces.
    rest = abs(number)
    pieces = []
    while rest >= PIECE:
        rest, piece = divmod(rest, PIECE)
        pieces.append(str(piece).zfill(PIECE_DIGITS))
    pieces.append(str(rest))
    if number < 0:
        pieces.append("-")
    return "".join(pieces[::-1])
