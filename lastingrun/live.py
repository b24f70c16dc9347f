"""Which variables are live at a point of a function."""

from lastingrun.steps import Code


def next_places(code, place):
    """The list of the places of the steps to which paths lead from a step."""
    step = code.steps[place]
    if step[0] == "return":
        return []
    if step[0] == "throw":
        return handler_places(code, place)
    if step[0] == "jump":
        return [step[1]]
    places = [place + 1]
    if step[0] in ("skip", "and", "or"):
        places.append(step[1])
    if code.points[place] is not None:
        places.extend(handler_places(code, place))
    return places


def handler_places(code, place):
    """The place where the innermost handler around a step begins, in a list; none if there is none."""
    catch = code.catch_place(place)
    return [] if catch is None else [catch]


def places_before(code):
    """For each step the list of the places of the steps from which paths lead to it."""
    before = [[] for _ in code.steps]
    for place in range(len(code.steps)):
        for after in next_places(code, place):
            before[after].append(place)
    return before


def live_places(code, before, name):
    """A dict of the places before whose steps a variable is live."""
    found = {}
    rest = [place for place, step in enumerate(code.steps) if step == ("load", name)]
    while rest:
        place = rest.pop()
        if place not in found:
            found[place] = True
            # What assigns the variable ends the paths that are gone back.
            rest.extend([at for at in before[place] if code.steps[at] != ("store", name)])
    return found


def all_live_names(code):
    """For each step the ascending list of the variables that are live before it."""
    before = places_before(code)
    names = [[] for _ in code.steps]
    read = [step[1] for step in code.steps if step[0] == "load"]
    for name in sorted(set(read)):
        for place in live_places(code, before, name):
            names[place].append(name)
    return names


def live_names(code, place):
    """The ascending list of the variables that are live at the point that this step is."""
    if code.live_names is None:
        code.live_names = all_live_names(code)
    return code.live_names[place]


def live(program, function, number, wait=None):
    """The ascending list of the variables that are live at a point of the function with this name."""
    codes = [Code(row) for row in program if row[0] == function]
    return list(live_names(codes[0], codes[0].places[(number, wait)]))
