"""Chains of hops, their gains, and the bound that they set to the least level."""


# People are looked at ahead of the rooms: through is asked for two unlike people who are there alone.
def is_hop(aim, hop):
    people = aim.house.people()
    if hop[0] == hop[2] or not 0 <= hop[0] < people or not 0 <= hop[2] < people:
        return False
    return hop[1] in aim.through(hop[0], hop[2])


def chain_gain(aim, chain, i):
    total = 0
    # Walked from the end, where the person is known.
    ending = i
    for hop in reversed(chain):
        if hop[2] != ending or not is_hop(aim, hop):
            return None
        total = total + aim.gain(hop[0], hop[1], hop[2])
        ending = hop[0]
    return total


def best_room(aim, rooms, a, b):
    return max(rooms, key=lambda room: aim.gain(a, room, b))


# Of all hops from one person to another a chain of greatest gain needs the best one alone.
def best_hops(aim):
    people = aim.house.people()
    hops = []
    for a in range(people):
        for b in range(people):
            rooms = [] if a == b else aim.through(a, b)
            if len(rooms) > 0:
                hops.append((a, best_room(aim, rooms, a, b), b))
    return hops


# None where nothing has come to the person so far.
def hop_on(hops, gains, totals, chains):
    for place in range(len(hops)):
        hop = hops[place]
        came = totals[hop[0]]
        there = totals[hop[2]]
        if came is not None and (there is None or came + gains[place] > there):
            totals[hop[2]] = came + gains[place]
            chains[hop[2]] = chains[hop[0]] + [hop]


# Chains carry on what each person starts with (None: nothing), each with its gain. Told are the greatest that comes to
# each person and the chain that brings it.
# By a way of greatest worth no chain from a person back to them gains anything, so no chain need come to a person
# twice, and as many turns as there are people reach the longest one.
def carry(aim, starts):
    totals = list(starts)
    chains = [[] for start in starts]
    hops = best_hops(aim)
    gains = [aim.gain(hop[0], hop[1], hop[2]) for hop in hops]
    for turn in range(len(starts)):
        hop_on(hops, gains, totals, chains)
    return (totals, chains)


def greatest(aim):
    return carry(aim, [0 for person in range(aim.house.people())])


def bound(aim, chains):
    people = aim.house.people()
    gains = [chain_gain(aim, chains[person], person) for person in range(people)]
    if None in gains:
        return None
    return (aim.whole() - sum(gains), people)
