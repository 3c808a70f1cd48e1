"""Steps that the other modules share; nothing here is promised to an asker."""

from flatmeet.errors import NotAlike


# zip by itself would drop the tail of the longer list in silence.
def pairs(one, other):
    if len(one) != len(other):
        raise NotAlike("lists of unlike lengths")
    return list(zip(one, other))
