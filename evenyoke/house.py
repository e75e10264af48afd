"""The house: hands and chores by names, the deeds that change them and the questions about them [14 to 18]."""

from evenyoke.crowds import layers_by
from evenyoke.dealing import loads_of_shares
from evenyoke.errors import NoChore, NoHand, NoName, NotSo, NoWork, TooMany, Twice
from evenyoke.pieces import deal_pieces
from evenyoke.upkeep import kept_up

LONGEST_NAME = 12
MOST = 40
NOTHING = (0, 1)


def is_name(thing):
    return isinstance(thing, str) and 1 <= len(thing) <= LONGEST_NAME and all(["a" <= sign <= "z" for sign in thing])


def need_name(thing):
    if not is_name(thing):
        raise NoName("a name is a text of one to twelve small letters")


# What the modules below the house are asked with: only the hands that are there and the chores that are dealt,
# numbered in the house's order.
class Roll:
    def __init__(self, crew, tasks):
        self.present = [hand for hand in crew if crew[hand]]
        self.dealt = []
        self.works = []
        self.doers = []
        number_of = dict([(hand, number) for number, hand in enumerate(self.present)])
        for chore in tasks:
            numbers = [number_of[hand] for hand in tasks[chore][1] if hand in number_of]
            if len(numbers) > 0:
                self.dealt.append(chore)
                self.works.append(tasks[chore][0])
                self.doers.append(numbers)

    def hand_names(self, numbers):
        return [self.present[number] for number in numbers]

    # For each chore that is dealt a dict of what is above 0 in its row, by the names of its doers.
    def by_names(self, rows, is_above):
        told = {}
        for chore, numbers, row in zip(self.dealt, self.doers, rows):
            told[chore] = dict([pair for pair in zip(self.hand_names(numbers), row) if is_above(pair[1])])
        return told


# crew has for each hand whether it is there, tasks for each chore its work and the list of the hands that it names,
# both in the house's order; rows has for each chore that is dealt its shares above 0 by hands, burdens each hand's
# load, piece_rows what rows has but in pieces, or None where they have not been asked for since the last deed. None
# of them is ever changed: a deed puts others in their place. So a twin may have the same ones.
class House:
    def __init__(self):
        self.crew = {}
        self.tasks = {}
        self.rows = {}
        self.burdens = {}
        self.piece_rows = None

    def twin(self):
        other = House()
        other.crew = self.crew
        other.tasks = self.tasks
        other.rows = self.rows
        other.burdens = self.burdens
        other.piece_rows = self.piece_rows
        return other

    def need_hand(self, name):
        if name not in self.crew:
            raise NoHand("there is no hand of this name")

    def need_chore(self, chore):
        if chore not in self.tasks:
            raise NoChore("there is no chore of this name")

    def hire(self, name):
        need_name(name)
        if name in self.crew:
            raise Twice("there is a hand of this name")
        if len(self.crew) >= MOST:
            raise TooMany("there are forty hands")
        return self.with_crew(name, True)

    def put(self, chore, work, names):
        need_name(chore)
        if chore in self.tasks:
            raise Twice("there is a chore of this name")
        if work < 1:
            raise NoWork("a chore's work is 1 at least")
        if len(names) == 0:
            raise NoHand("a chore names one hand at least")
        for name in names:
            self.need_hand(name)
        if len(set(names)) < len(names):
            raise Twice("a hand is named twice")
        if len(self.tasks) >= MOST:
            raise TooMany("there are forty chores")
        return self.with_task(chore, work, [hand for hand in self.crew if hand in names])

    def drop(self, chore):
        self.need_chore(chore)
        tasks = dict(self.tasks)
        tasks.pop(chore)
        return self.settle(self.crew, tasks, chore)

    def more(self, chore, work):
        return self.grow(chore, work, 1)

    def fewer(self, chore, work):
        return self.grow(chore, work, -1)

    def grow(self, chore, work, sign):
        self.need_chore(chore)
        task = self.tasks[chore]
        after = task[0] + sign * work
        if work < 1 or after < 1:
            raise NoWork("what is added or taken, and what is left, is 1 at least")
        return self.with_task(chore, after, task[1])

    def away(self, name):
        return self.move(name, False)

    def back(self, name):
        return self.move(name, True)

    def move(self, name, to_be_there):
        self.need_hand(name)
        if self.crew[name] == to_be_there:
            raise NotSo("the hand is away already, or there already")
        return self.with_crew(name, to_be_there)

    def with_crew(self, name, is_present):
        crew = dict(self.crew)
        crew[name] = is_present
        return self.settle(crew, self.tasks, None)

    def with_task(self, chore, work, named):
        tasks = dict(self.tasks)
        tasks[chore] = (work, named)
        return self.settle(self.crew, tasks, chore)

    # touched is the chore that the deed is done to, None where it is done to a hand.
    def settle(self, crew, tasks, touched):
        roll = Roll(crew, tasks)
        many = len(roll.present)
        old_rows = [self.old_row(roll, place, touched) for place in range(len(roll.dealt))]
        old_loads = [self.burdens.get(hand, NOTHING) for hand in roll.present]
        dealt = kept_up(roll.works, roll.doers, many, old_rows, old_loads)
        burdens = dict([(hand, NOTHING) for hand in crew])
        burdens.update(dict(zip(roll.present, loads_of_shares(roll.doers, many, dealt))))
        changes = self.changes_to(burdens)
        self.crew = crew
        self.tasks = tasks
        self.rows = roll.by_names(dealt, lambda share: share[0] > 0)
        self.burdens = burdens
        self.piece_rows = None
        return changes

    # The shares ahead of the deed as kept_up is handed them.
    def old_row(self, roll, place, touched):
        chore = roll.dealt[place]
        if chore == touched or chore not in self.rows:
            return None
        doers = roll.hand_names(roll.doers[place])
        if any([hand not in doers for hand in self.rows[chore]]):
            return None
        return [self.rows[chore].get(hand, NOTHING) for hand in doers]

    def changes_to(self, burdens):
        changes = [(hand, self.burdens.get(hand, NOTHING), burdens[hand]) for hand in burdens]
        return [change for change in changes if change[1] != change[2]]

    def load(self, name):
        self.need_hand(name)
        return self.burdens[name]

    def shares(self, chore):
        self.need_chore(chore)
        return list(self.rows.get(chore, {}).items())

    def work(self, chore):
        self.need_chore(chore)
        return self.tasks[chore][0]

    def is_there(self, name):
        self.need_hand(name)
        return self.crew[name]

    def hands(self):
        return list(self.crew)

    def chores(self):
        return list(self.tasks)

    def waiting(self):
        return [chore for chore in self.tasks if chore not in self.rows]

    def layers(self):
        roll = Roll(self.crew, self.tasks)
        told = []
        for layer in layers_by(roll.works, roll.doers, len(roll.present)):
            told.append((layer[0], roll.hand_names(layer[1]), [roll.dealt[number] for number in layer[2]]))
        return told

    # All chores are dealt in pieces at once, since their pieces belong together.
    def pieces(self, chore):
        self.need_chore(chore)
        if self.piece_rows is None:
            roll = Roll(self.crew, self.tasks)
            numbers = deal_pieces(roll.works, roll.doers, len(roll.present))
            self.piece_rows = roll.by_names(numbers, lambda number: number > 0)
        return list(self.piece_rows.get(chore, {}).items())
