"""How threads hang together: what lies over what, and what comes off with a thread."""

from loomwright.masks import numbers_of, other_mask
from loomwright.turns import inverted

END = "end"
PICK = "pick"


def end_threads(ends):
    return [(END, end) for end in ends]


def pick_threads(picks):
    return [(PICK, pick) for pick in picks]


# In order: as texts, too, "end" stands ahead of "pick", so that sorting threads keeps to it.
def threads_of(cloth):
    return end_threads(list(range(1, cloth.ends() + 1))) + pick_threads(list(range(1, cloth.picks() + 1)))


def over_of(cloth, thread):
    if thread[0] == PICK:
        return end_threads(numbers_of(cloth.row_at(thread[1])))
    return pick_threads(numbers_of(other_mask(cloth.column_at(thread[1]), cloth.picks())))


# For each thread what lies over it.
def overs_of(cloth):
    overs = {}
    for thread in threads_of(cloth):
        overs[thread] = over_of(cloth, thread)
    return overs


# For each thread to which a chain leads from one, the thread ahead of it in the chain that is told; None for one
# itself. Threads are met in the order of their chains, shorter ones and then lesser ones first, so the first thread
# from which another one is met stands in the least of its shortest chains.
def threads_ahead(overs, one):
    ahead = {one: None}
    met = [one]
    while len(met) > 0:
        later = []
        for thread in met:
            for upper in overs[thread]:
                if upper not in ahead:
                    ahead[upper] = thread
                    later.append(upper)
        met = later
    return ahead


def chain_of(cloth, one, other):
    ahead = threads_ahead(overs_of(cloth), one)
    if other not in ahead:
        return None
    chain = []
    thread = other
    while thread is not None:
        chain.append(thread)
        thread = ahead[thread]
    return list(reversed(chain))


def lifted_with(cloth, thread):
    return sorted(threads_ahead(overs_of(cloth), thread))


# It is enough that chains lead from one thread to each, and from each to that one: the latter are chains from it
# where what lay over lies under.
def hangs(cloth):
    many = cloth.ends() + cloth.picks()
    one = (END, 1)
    return len(lifted_with(cloth, one)) == many and len(lifted_with(inverted(cloth), one)) == many
