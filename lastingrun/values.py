"""The values of programs, and what operators make of them.

A value is an integer, None, or a record; what stands for a record is compared by ==.
"""

from lastingrun.limits import LIMIT

NO_DIVISOR = -1
WRONG_KIND = -2
NO_FIELD = -3
TOO_LARGE = -4
TOO_DEEP = -5


class Failure(Exception):
    """A program did what cannot be done, which throws this number in it."""

    def __init__(self, number):
        Exception.__init__(self, f"failure {number}")
        self.number = number


def is_true(value):
    return value is not None and value != 0


def is_record(value):
    return value is not None and not isinstance(value, int)


def integer(value):
    """The value itself, which must be an integer."""
    if not isinstance(value, int):
        raise Failure(WRONG_KIND)
    return value


def limited(number):
    """The number itself, which must not be beyond LIMIT."""
    if number < -LIMIT or LIMIT < number:
        raise Failure(TOO_LARGE)
    return number


def negated(value):
    return limited(-integer(value))


def operated(sign, left, right):
    """What an operator other than and and or makes of two values."""
    if sign == "==":
        return int(left == right)
    if sign == "!=":
        return int(left != right)
    integer(left)
    integer(right)
    if sign == "<":
        return int(left < right)
    if sign == "<=":
        return int(left <= right)
    return limited(calculated(sign, left, right))


def calculated(sign, left, right):
    """The result of + - * / or mod for two integers, which may be beyond LIMIT."""
    if sign == "+":
        return left + right
    if sign == "-":
        return left - right
    if sign == "*":
        return left * right
    if right == 0:
        raise Failure(NO_DIVISOR)
    if sign == "/":
        return left // right
    return left % right
