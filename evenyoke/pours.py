"""Pours: as much as can be is sent from gives to takes along ties [5, 6, 7]."""


# Gives and takes are numbered in one row here, the gives first, and are called ends: the ends of the ties.
# spare is what a give has left, or what a take has room for.
class Pour:
    def __init__(self, gives, takes, ties, sent):
        self.many_gives = len(gives)
        self.tie_ends = [(give, self.many_gives + take) for give, take in ties]
        self.sent = list(sent)
        self.spare = gives + takes
        self.ties_at = [[] for end in self.spare]
        for tie, ends in enumerate(self.tie_ends):
            for end in ends:
                self.spare[end] -= self.sent[tie]
                self.ties_at[end].append(tie)

    def far_end(self, end, tie):
        ends = self.tie_ends[tie]
        return ends[1] if end == ends[0] else ends[0]

    # From a give more may always be sent along a tie; from a take only what came along it may be turned back.
    def may_go(self, end, tie):
        return end < self.many_gives or self.sent[tie] > 0

    def gives_with_rest(self):
        return [give for give in range(self.many_gives) if self.spare[give] > 0]

    def has_room(self, ends):
        return any([end >= self.many_gives and self.spare[end] > 0 for end in ends])

    # For each end how many ties off it is from a give with something left, -1 where it is not reached.
    # The walk ends at the first takes with room: only shortest ways are sent along, since with longer ones
    # the number of ways would hang on how great the numbers are.
    def steps_to_room(self):
        steps = [-1] * len(self.spare)
        row = self.gives_with_rest()
        for give in row:
            steps[give] = 0
        while len(row) > 0 and not self.has_room(row):
            row = self.row_behind(row, steps)
        return steps

    def row_behind(self, row, steps):
        behind = []
        for end in row:
            for tie in self.ties_at[end]:
                far = self.far_end(end, tie)
                if steps[far] < 0 and self.may_go(end, tie):
                    steps[far] = steps[end] + 1
                    behind.append(far)
        return behind

    # tried tells for each end how many of its ties lead no further by these steps. What led nowhere once
    # leads nowhere until the steps are counted anew, so no tie is tried again.
    def send_by_steps(self, steps):
        tried = [0] * len(self.spare)
        for give in self.gives_with_rest():
            way = self.way_from(give, steps, tried)
            while len(way) > 0:
                self.send_along(give, way)
                way = self.way_from(give, steps, tried) if self.spare[give] > 0 else []

    # The ties of a shortest way from the give to a take with room; none where there is no such way.
    def way_from(self, give, steps, tried):
        way = []
        ends = [give]
        while len(ends) > 0 and not self.has_room([ends[-1]]):
            end = ends[-1]
            self.skip_dead_ties(end, steps, tried)
            if tried[end] < len(self.ties_at[end]):
                tie = self.ties_at[end][tried[end]]
                way.append(tie)
                ends.append(self.far_end(end, tie))
            else:
                ends.pop()
                if len(ends) > 0:
                    way.pop()
                    tried[ends[-1]] += 1
        return way

    def skip_dead_ties(self, end, steps, tried):
        ties = self.ties_at[end]
        while tried[end] < len(ties) and not self.leads_on(end, ties[tried[end]], steps):
            tried[end] += 1

    def leads_on(self, end, tie, steps):
        return steps[self.far_end(end, tie)] == steps[end] + 1 and self.may_go(end, tie)

    # A way goes from give to take and back in turn, so along every second tie something is turned back.
    def send_along(self, give, way):
        take = self.tie_ends[way[-1]][1]
        amount = min([self.spare[give], self.spare[take]] + [self.sent[tie] for tie in way[1::2]])
        for tie in way[0::2]:
            self.sent[tie] += amount
        for tie in way[1::2]:
            self.sent[tie] -= amount
        self.spare[give] -= amount
        self.spare[take] -= amount

    # The last steps, that find no room, reach just the ends that are near [6].
    def fill(self):
        steps = self.steps_to_room()
        while self.has_room([end for end, step in enumerate(steps) if step >= 0]):
            self.send_by_steps(steps)
            steps = self.steps_to_room()
        return [step >= 0 for step in steps]


def pour_all(gives, takes, ties):
    return pour_more(gives, takes, ties, [0] * len(ties))


# A way brings each take that it passes as much as it turns back from there, so no take gets less [7].
def pour_more(gives, takes, ties, sent):
    pour = Pour(gives, takes, ties, sent)
    near = pour.fill()
    return (pour.sent, (near[:len(gives)], near[len(gives):]))
