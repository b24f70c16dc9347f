"""How tightly the operators of expressions bind."""

# A higher level binds tighter.
LEVELS = {
    "or": 0,
    "and": 1,
    "==": 2, "!=": 2, "<": 2, "<=": 2,
    "+": 3, "-": 3,
    "*": 4, "/": 4, "mod": 4,
}
TEST_LEVEL = 2
SIGN_LEVEL = 5
ITEM_LEVEL = 6


def left_floor(word):
    """The lowest level of what may stand to the left of this operator without parentheses."""
    level = LEVELS[word]
    # Comparisons do not follow each other; the other operators of one level associate to the left.
    return level + 1 if level == TEST_LEVEL else level


def right_floor(word):
    """The lowest level of what may stand to the right of this operator without parentheses."""
    return LEVELS[word] + 1
