"""Whole pieces: each hand gets its load rounded down or rounded up [13]."""

from evenyoke.crowds import crowds_by, rows_from, ties_in, work_in
from evenyoke.pours import pour_all, pour_more


def deal_pieces(works, doers, many):
    crowds = crowds_by(works, doers, many)
    sents = [pieces_in(works, doers, crowd) for crowd in crowds]
    return rows_from(doers, crowds, sents, 0)


# First every hand is filled up to the load rounded down, which can be since all can bear the load; then what is
# left is poured on, by which no hand gets less.
def pieces_in(works, doers, crowd):
    many = len(crowd[0])
    work = work_in(works, crowd)
    gives = [works[chore] for chore in crowd[1]]
    ties = ties_in(doers, crowd)
    sent = pour_all(gives, [work // many] * many, ties)[0]
    return pour_more(gives, [-(-work // many)] * many, ties, sent)[0]
