"""Which rooms of a house are reached, and by which least words."""


# Rooms are walked in the order in which they are found, and letters from 0 on:
# so the first word that comes to a room is the least one, and no later one is looked at.
def words_in(house):
    words = {0: ()}
    rooms = [0]
    walked = 0
    while walked < len(rooms):
        room = rooms[walked]
        for letter, goal in enumerate(house[2][room]):
            if goal not in words:
                words[goal] = words[room] + (letter,)
                rooms.append(goal)
        walked += 1
    return words


def ways_in(house):
    words = words_in(house)
    return [words.get(room) for room in range(len(house[1]))]


def reached(house):
    return list(words_in(house))
