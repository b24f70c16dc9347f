"""The requests of a sheet: from lines to tuples (word, ..)."""

from lastingrun.errors import BadLine
from lastingrun.limits import LIMIT
from lastingrun.tokens import DIGITS, KEYWORDS, LETTERS, LONGEST_NAME

LONGEST_NUMBER = 13

# What may stand behind the first word of a request.
FORMS = {
    "accept": (("port", "number", "value"),),
    "run": (("number",),),
    "commit": ((),),
    "out": (("port",),),
    "took": (("port", "number"),),
    "fail": (("number",),),
    "confirmed": (("port",),),
    "turns": ((),),
    "fixed": ((),),
    "records": ((),),
    "writes": ((),),
    "snapshot": ((), ("number",)),
    "collect": ((), ("number",)),
}


def has_only(word, letters):
    """Whether a word is not empty and consists of these letters."""
    return word != "" and all([letter in letters for letter in word])


def port_of(word):
    """The NAME of a port that a word is, or None."""
    good = has_only(word, LETTERS) and len(word) <= LONGEST_NAME and word not in KEYWORDS
    return word if good else None


def number_of(word):
    """The number that a word is, or None."""
    if not has_only(word, DIGITS) or len(word) > LONGEST_NUMBER:
        return None
    if word[0] == "0" and len(word) > 1:
        return None
    return int(word)


def value_of(word):
    """The integer from -LIMIT to LIMIT that a word is, or None."""
    negative = word.startswith("-")
    number = number_of(word[1:] if negative else word)
    if number is None or number > LIMIT or (negative and number == 0):
        return None
    return -number if negative else number


KINDS = {"port": port_of, "number": number_of, "value": value_of}


def parts_of(words, kinds):
    """The list of what the words are, each of its kind, or None."""
    if len(words) != len(kinds):
        return None
    parts = []
    for word, kind in zip(words, kinds):
        read_word = KINDS[kind]
        parts.append(read_word(word))
    return None if None in parts else parts


def indices_of(words):
    """The list of the ascending indices that the words are, or None; a single minus stands for none."""
    if words == ["-"]:
        return []
    indices = [number_of(word) for word in words]
    if not indices or None in indices or indices != sorted(set(indices)):
        return None
    return indices


class Lines:
    """A way through the lines of a sheet. Each method raises BadLine(number)."""

    def __init__(self, text):
        self.lines = text.split("\n")
        self.at = 0

    def is_over(self):
        return self.at == len(self.lines)

    def counted(self, words):
        """The text in the lines behind the present one, as many as the words, which are one number."""
        parts = parts_of(words, ("number",))
        if parts is None or parts[0] == 0:
            raise BadLine(self.at)
        low = self.at + 1
        if low + parts[0] > len(self.lines):
            raise BadLine(len(self.lines))
        self.at = low + parts[0]
        return "\n".join(self.lines[low:self.at])

    def program(self):
        """The text of the program with which a sheet begins."""
        word, *words = self.lines[0].split(" ")
        if word != "program":
            raise BadLine(0)
        return self.counted(words)

    def request(self):
        """The next request, as a tuple of its word and what stands behind it."""
        word, *words = self.lines[self.at].split(" ")
        if word == "change":
            return (word, self.counted(words))
        if word == "crash":
            indices = indices_of(words)
            if indices is None:
                raise BadLine(self.at)
            self.at += 1
            return (word, indices)
        for kinds in FORMS.get(word, ()):
            parts = parts_of(words, kinds)
            if parts is not None:
                self.at += 1
                return (word, *parts)
        raise BadLine(self.at)
