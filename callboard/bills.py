"""Bills: what each leg of a call has come to, and who owes it."""


def bills(log):
    legs = []
    owners = []
    units = []
    counts = {}
    for event in log:
        word = event[0]
        if word == "leg":
            legs.append(event[2:])
            owners.append(event[1])
            units.append(0)
        elif word in ("talks", "over"):
            # A held call was one that talks, and it counts on.
            counts[event[1]] = word == "talks"
        elif word == "merge":
            owners = [event[2] if owner == event[1] else owner for owner in owners]
        elif word == "turn":
            units = [told + 1 if counts.get(owner, False) else told for owner, told in zip(owners, units)]
    return [leg + (told,) for leg, told in zip(legs, units)]


def owed(log):
    sums = {}
    for bill in bills(log):
        sums[bill[2]] = sums.get(bill[2], 0) + bill[3]
    return sorted(sums.items())
