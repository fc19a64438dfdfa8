"""A way of greatest worth."""

from rentshare.house import open_rooms


# To each room: what the newcomer and those who make place for them gain, and their moves.
def improve(house, way, gains, moves):
    for person in range(len(way)):
        left = way[person]
        worths = house.worths[person]
        for room in range(house.rooms()):
            gain = gains[left] + worths[room] - worths[left]
            if gain > gains[room]:
                gains[room] = gain
                moves[room] = moves[left] + [(person, room)]


# The way is of greatest worth for its people, so no round of moves among them gains anything: no row of moves need
# go through a room twice, and as many turns as there are rooms reach the longest one.
def bring_in(house, way):
    newcomer = len(way)
    gains = list(house.worths[newcomer])
    moves = [[(newcomer, room)] for room in range(house.rooms())]
    for turn in range(house.rooms()):
        improve(house, way, gains, moves)
    end = max(open_rooms(house, way), key=lambda room: gains[room])
    brought = way + [end]
    for move in moves[end]:
        brought[move[0]] = move[1]
    return brought


# With the best row of moves for each newcomer, the way is of greatest worth for the people so far at each step.
def best_way(house):
    way = []
    while len(way) < house.people():
        way = bring_in(house, way)
    return way
