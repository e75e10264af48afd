"""Upkeep: a dealing of before is kept where one deed leaves it even, and the rest is dealt anew [16]."""

from evenyoke.dealing import deal_evenly, loads_of_shares


# Take a deed by which loads rise. A chore with a share ahead of it at a hand whose load stays has none behind it at
# a hand whose load rises, as that one bore no less ahead of it already: so all its work lies behind the deed at
# hands whose loads stay. These would bear more, had it had a share elsewhere ahead of the deed, or did another chore
# come to them. So in all even dealings, ahead and behind, the same chores are dealt among these hands, and have no
# share elsewhere. Where loads fall, ahead and behind change places. So old rows of these chores fit beside new ones.
def kept_up(works, doers, many, shares, old_loads):
    dealt = deal_evenly(works, doers, many)
    loads = loads_of_shares(doers, many, dealt)
    stayed = [load == old_load for load, old_load in zip(loads, old_loads)]
    return [list(old) if is_kept(hands, old, stayed) else new for hands, old, new in zip(doers, shares, dealt)]


def is_kept(hands, old, stayed):
    return old is not None and any([share[0] > 0 and stayed[hand] for hand, share in zip(hands, old)])
