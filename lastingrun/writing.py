"""From the tree of a program to its text."""

from lastingrun.operators import ITEM_LEVEL, LEVELS, SIGN_LEVEL, left_floor, right_floor

STEP_IN = "  "


def program_lines(program):
    """The list of the lines of a program."""
    lines = []
    for name, parameters, body in program:
        names = ", ".join(parameters)
        lines.append(f"func {name}({names})")
        lines.extend(block_lines(body, STEP_IN))
        lines.append("end")
    return lines


def block_lines(body, margin):
    """The list of the lines of the statements of a block; each begins with the margin."""
    lines = []
    for statement in body:
        lines.extend(statement_lines(statement, margin, ""))
    return lines


def statement_lines(statement, margin, label):
    """The list of the lines of a statement, with the label, if any, before its first word."""
    begin = margin + label
    within = margin + STEP_IN
    match statement:
        case ("here", name, inner):
            return statement_lines(inner, margin, f"here {name} ")
        case ("if", test, body, other):
            lines = [f"{begin}if {expression_text(test)}", *block_lines(body, within)]
            if other:
                lines.append(f"{margin}else")
                lines.extend(block_lines(other, within))
            return [*lines, f"{margin}end"]
        case ("while", test, body):
            return [f"{begin}while {expression_text(test)}", *block_lines(body, within), f"{margin}end"]
        case ("try", body, name, handler):
            lines = [f"{begin}try", *block_lines(body, within), f"{margin}catch {name}"]
            return [*lines, *block_lines(handler, within), f"{margin}end"]
    return [begin + statement_text(statement)]


def statement_text(statement):
    """The text of a statement that stands on one line."""
    match statement:
        case ("let", name, value):
            return f"let {name} = {expression_text(value)}"
        case ("set", name, value):
            return f"{name} = {expression_text(value)}"
        case ("put", record, field, value):
            return f"{expression_text(record)}.{field} = {expression_text(value)}"
        case ("return", value):
            return f"return {expression_text(value)}"
        case ("throw", value):
            return f"throw {expression_text(value)}"
        case ("send", port, value):
            return f"send {port} {expression_text(value)}"
        case ("spawn", name, values):
            return f"spawn {name}{arguments_text(values)}"
    # What is left is a do.
    return expression_text(statement[1])


def arguments_text(values):
    """The text of arguments, with their parentheses."""
    inner = ", ".join([expression_text(value) for value in values])
    return f"({inner})"


def level_of(tree):
    """How tightly an expression holds together."""
    if tree[0] == "op":
        return LEVELS[tree[1]]
    if tree[0] in ("neg", "not"):
        return SIGN_LEVEL
    return ITEM_LEVEL


def expression_text(tree, floor=0):
    """The text of an expression, in parentheses if its level is below the floor."""
    if level_of(tree) < floor:
        return f"({expression_text(tree)})"
    match tree:
        case ("int", number):
            return str(number)
        case ("none",):
            return "none"
        case ("var", name):
            return name
        case ("call", name, values):
            return name + arguments_text(values)
        case ("receive", port):
            return f"receive {port}"
        case ("new", pairs):
            inner = ", ".join([f"{field}: {expression_text(value)}" for field, value in pairs])
            return f"new({inner})"
    if tree[0] == "get":
        return fields_text(tree)
    if tree[0] == "op":
        return operation_text(tree)
    return signs_text(tree)


def fields_text(tree):
    """The text of a get. A loop, because a chain of fields is long without being nested."""
    parts = []
    while tree[0] == "get":
        parts.append("." + tree[2])
        tree = tree[1]
    return expression_text(tree, ITEM_LEVEL) + "".join(reversed(parts))


def signs_text(tree):
    """The text of a neg or a not."""
    parts = []
    while tree[0] in ("neg", "not"):
        parts.append("-" if tree[0] == "neg" else "not ")
        tree = tree[1]
    return "".join(parts) + expression_text(tree, SIGN_LEVEL)


def operation_text(tree):
    """The text of an operator with its operands. A loop, because a long sum goes deep on its left."""
    parts = []
    floor = LEVELS[tree[1]]
    while tree[0] == "op" and LEVELS[tree[1]] >= floor:
        word = tree[1]
        parts.append(f" {word} {expression_text(tree[3], right_floor(word))}")
        floor = left_floor(word)
        tree = tree[2]
    return expression_text(tree, floor) + "".join(reversed(parts))
