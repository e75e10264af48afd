"""Asks: whether all can be dealt below a level, why a hand bears what it bears, and deeds tried [19, 20, 21]."""

from evenyoke.errors import NoDeed
from evenyoke.parts import is_below


def chores_at(house, names):
    return [chore for chore in house.chores() if any([pair[0] in names for pair in house.shares(chore)])]


def limit_of(house, level):
    names = [name for name in house.hands() if is_below(level, house.load(name))]
    if len(names) == 0:
        return ("yes",)
    return ("no", names, chores_at(house, names))


def why_so(house, name):
    load = house.load(name)
    if not house.is_there(name):
        return (load, [], [])
    there = [other for other in house.hands() if house.is_there(other)]
    names = [other for other in there if not is_below(house.load(other), load)]
    return (load, names, chores_at(house, names))


def do_deed(house, deed):
    word = deed[0]
    if word == "hire":
        return house.hire(deed[1])
    if word == "put":
        return house.put(deed[1], deed[2], deed[3])
    if word == "drop":
        return house.drop(deed[1])
    if word == "more":
        return house.more(deed[1], deed[2])
    if word == "fewer":
        return house.fewer(deed[1], deed[2])
    if word == "away":
        return house.away(deed[1])
    if word == "back":
        return house.back(deed[1])
    raise NoDeed("no deed has this word")


def tried_on(house, deed):
    return do_deed(house.twin(), deed)
