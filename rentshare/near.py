"""Ways of greatest worth by which those who want to lie near one another do."""

from rentshare.ways import all_ways


def lie_near(way, wings, pair):
    return wings[way[pair[0]]] == wings[way[pair[1]]]


def near_count(way, wings, pairs):
    return len([pair for pair in pairs if lie_near(way, wings, pair)])


def near_way(house, wings, pairs):
    ways = all_ways(house)
    counts = [near_count(way, wings, pairs) for way in ways]
    return ways[counts.index(max(counts))]
