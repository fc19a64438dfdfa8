"""Chains of hops, their gains, and the bound that they set to the least level."""


# People are looked at ahead of the rooms: through is asked for two unlike people who are there alone.
def is_hop(aim, hop):
    people = aim.house.people()
    if hop[0] == hop[2] or not 0 <= hop[0] < people or not 0 <= hop[2] < people:
        return False
    return hop[1] in aim.through(hop[0], hop[2])


def chain_gain(aim, chain, i):
    total = 0
    # Walked from the end, where the person is known.
    ending = i
    for hop in reversed(chain):
        if hop[2] != ending or not is_hop(aim, hop):
            return None
        total = total + aim.gain(hop[0], hop[1], hop[2])
        ending = hop[0]
    return total


def hop_on(aim, person, gains, chains):
    for other in range(aim.house.people()):
        if other == person:
            continue
        for room in aim.through(person, other):
            gain = gains[person] + aim.gain(person, room, other)
            if gain > gains[other]:
                gains[other] = gain
                chains[other] = chains[person] + [(person, room, other)]


# By a way of greatest worth no chain from a person back to them gains anything, so no chain need come to a person
# twice, and as many turns as there are people reach the longest one.
def greatest(aim):
    people = aim.house.people()
    gains = [0 for person in range(people)]
    chains = [[] for person in range(people)]
    for turn in range(people):
        for person in range(people):
            hop_on(aim, person, gains, chains)
    return (gains, chains)


def bound(aim, chains):
    people = aim.house.people()
    gains = [chain_gain(aim, chains[person], person) for person in range(people)]
    if None in gains:
        return None
    return (aim.whole() - sum(gains), people)
