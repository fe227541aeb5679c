"""Ways of calls: where a call goes by the wishes, and the rings in which it could go round."""


def fitting(board, caller, target):
    """The numbers of all wishes that are on and fit, rising."""
    wishes = board.plan.wishes
    return tuple([i for i, on in enumerate(board.on) if on and wishes[i].fits(board, caller, target)])


def rung_phones(board, caller, target):
    free = board.ringable(caller, target)
    if board.plan.manner(target) != "turns":
        return tuple(free)
    members = board.plan.phones_of(target)
    place = board.nexts[target]
    in_turn = [phone for phone in members[place:] + members[:place] if phone in free]
    return tuple(in_turn[:1])


def end_without_wish(board, caller, target):
    phones = rung_phones(board, caller, target)
    if len(phones) == 0:
        return ("engaged", target)
    return ("rings", target, phones)


def end_as_wanted(wanted, target):
    if wanted[0] == "wait":
        return ("waits", target)
    if wanted[0] == "break":
        return ("breaks", target)
    return ("barred",)


def route(board, caller, target, way):
    come_to = list(way)
    steps = []
    while target not in come_to:
        come_to.append(target)
        fits = fitting(board, caller, target)
        steps.append((target, fits))
        if len(fits) == 0:
            return (end_without_wish(board, caller, target), steps)
        wanted = board.plan.wishes[fits[0]].wants()
        if wanted[0] != "to":
            return (end_as_wanted(wanted, target), steps)
        target = wanted[1]
    return (("ring", tuple(come_to[come_to.index(target):])), steps)


def goals_of(plan):
    """For each name the names to which a wish that is on leads from it, rising, each once."""
    goals = dict([(name, []) for name in plan.names()])
    for on, wish in zip(plan.on, plan.wishes):
        if on and wish.wants()[0] == "to":
            goals[wish.told()[1]].append(wish.told()[2])
    return dict([(name, sorted(set(goals[name]))) for name in goals])


def rings_along(goals, path):
    """All rings that begin as the path does and have no name less than its first one."""
    found = []
    for goal in goals[path[-1]]:
        if goal == path[0]:
            found.append(list(path))
        elif goal > path[0] and goal not in path:
            found.extend(rings_along(goals, path + [goal]))
    return found


def rings_of(plan):
    goals = goals_of(plan)
    found = []
    for name in goals:
        found.extend(rings_along(goals, [name]))
    return sorted(found)
