"""The desk: lines of words, and the answers of the house that it keeps [22, 23]."""

from evenyoke.asks import do_deed, limit_of, tried_on, why_so
from evenyoke.errors import NoLine
from evenyoke.house import House
from evenyoke.wording import changes_text, layer_text, names_text, number_from, part_from, part_text, rows_text


def tell_waiting(house):
    return " ".join(house.waiting()) if len(house.waiting()) > 0 else "none"


def tell_layers(house):
    layers = house.layers()
    return "; ".join([layer_text(layer) for layer in layers]) if len(layers) > 0 else "none"


def tell_load(house, name):
    return part_text(house.load(name))


def tell_shares(house, chore):
    return rows_text([(name, part_text(share)) for name, share in house.shares(chore)], "none")


def tell_pieces(house, chore):
    return rows_text([(name, str(number)) for name, number in house.pieces(chore)], "none")


def tell_work(house, chore):
    return str(house.work(chore))


def tell_there(house, name):
    return "yes" if house.is_there(name) else "no"


def tell_limit(house, word):
    told = limit_of(house, part_from(word))
    return names_text(told[0], told[1], told[2]) if told[0] == "no" else told[0]


def tell_why(house, name):
    return layer_text(why_so(house, name))


# The questions of one word, and those of a word and one more.
OF_ALL = {"waiting": tell_waiting, "layers": tell_layers}
OF_ONE = {"load": tell_load, "shares": tell_shares, "pieces": tell_pieces, "work": tell_work, "there": tell_there,
          "limit": tell_limit, "why": tell_why}


def words_in(line):
    words = line.split(" ")
    if "" in words:
        raise NoLine("a line is words with one blank between two")
    return words


# The whole deed is read before anything is done, so that NoLine goes ahead of what the house refuses.
def deed_from(words):
    word = words[0] if len(words) > 0 else ""
    if word in ("hire", "drop", "away", "back") and len(words) == 2:
        return (word, words[1])
    if word in ("more", "fewer") and len(words) == 3:
        return (word, words[1], number_from(words[2]))
    if word == "put" and len(words) >= 4:
        return (word, words[1], number_from(words[2]), words[3:])
    raise NoLine("the line is neither a deed nor a question")


class Desk:
    def __init__(self):
        self.house = House()

    def say(self, line):
        words = words_in(line)
        word = words[0]
        if word == "try":
            return changes_text(tried_on(self.house, deed_from(words[1:])))
        if word in OF_ALL and len(words) == 1:
            return OF_ALL[word](self.house)
        if word in OF_ONE and len(words) == 2:
            return OF_ONE[word](self.house, words[1])
        return changes_text(do_deed(self.house, deed_from(words)))
