"""The tokens of the text of a program."""

from lastingrun.errors import BadText
from lastingrun.limits import LIMIT

LETTERS = "abcdefghijklmnopqrstuvwxyz"
DIGITS = "0123456789"
GAPS = " \n"

LONGEST_NAME = 12
# LIMIT has so many digits.
LONGEST_INTEGER = 13

KEYWORDS = (
    "func", "end", "let", "if", "else", "while", "return", "send", "spawn", "try", "catch", "throw",
    "here", "new", "receive", "none", "and", "or", "not", "mod",
)

# A longer sign stands before a shorter one with which it begins, so the longest one is found first.
SIGNS = ("==", "!=", "<=", "(", ")", ",", ":", ".", "=", "<", "+", "-", "*", "/")

# The kinds of the tokens that are neither a keyword nor a sign, and of the end of the text.
NAME = "NAME"
INTEGER = "INTEGER"
OVER = "OVER"


def run_end(text, at, letters):
    """The place behind the longest run of these letters from this place on."""
    while at < len(text) and text[at] in letters:
        at += 1
    return at


def is_in_run(text, at):
    """Whether a letter or a digit stands at this place."""
    return text[at] in LETTERS or text[at] in DIGITS


def integer_of(digits, at):
    """The number of a run of digits that begins at this place."""
    if digits[0] == "0" and len(digits) > 1:
        raise BadText(at)
    # Python refuses to convert very long runs, so the length is looked at first.
    if len(digits) > LONGEST_INTEGER or int(digits) > LIMIT:
        raise BadText(at)
    return int(digits)


class Tokens:
    """A way through a text: kind and worth are those of the present token, at is its place.

    The kind of a keyword or a sign is its text. A token is read only by the step to it, so that the
    first wrong place is found, whatever stands behind it.
    """

    def __init__(self, text):
        self.text = text
        self.kind = OVER
        self.worth = None
        self.at = 0
        self.behind = 0
        self.step()

    def step(self):
        """Goes to the next token."""
        text = self.text
        at = run_end(text, self.behind, GAPS)
        self.at = at
        if at == len(text):
            self._keep(OVER, None, at)
            return
        if at > 0 and is_in_run(text, at) and is_in_run(text, at - 1):
            raise BadText(at)
        if text[at] in LETTERS:
            self._read_letters()
        elif text[at] in DIGITS:
            behind = run_end(text, at, DIGITS)
            self._keep(INTEGER, integer_of(text[at:behind], at), behind)
        else:
            self._read_sign()

    def _keep(self, kind, worth, behind):
        self.kind = kind
        self.worth = worth
        self.behind = behind

    def _read_letters(self):
        behind = run_end(self.text, self.at, LETTERS)
        word = self.text[self.at:behind]
        if len(word) > LONGEST_NAME:
            raise BadText(self.at)
        self._keep(word if word in KEYWORDS else NAME, word, behind)

    def _read_sign(self):
        for sign in SIGNS:
            behind = self.at + len(sign)
            if self.text[self.at:behind] == sign:
                self._keep(sign, sign, behind)
                return
        raise BadText(self.at)
