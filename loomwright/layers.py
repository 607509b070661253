"""Layers: the threads that hang together, from above downwards."""

from loomwright.hanging import overs_of, threads_ahead, threads_of


# The layers in the order of their first threads, each with all that comes off with its threads. Threads are of one
# layer just where the same comes off with them: each of them is among what comes off with itself.
def lifted_layers(cloth):
    overs = overs_of(cloth)
    layers = {}
    for thread in threads_of(cloth):
        lifted = tuple(sorted(threads_ahead(overs, thread)))
        layers.setdefault(lifted, []).append(thread)
    return list(layers.items())


# Whether all that comes off with a layer, but the layer itself, is told.
def is_next(lifted, layer, told):
    return len([thread for thread in lifted if thread in told]) + len(layer) == len(lifted)


# Some layer can always come next: none lies above one that lies above it, in whatever many steps.
def next_place(waiting, told):
    place = 0
    while not is_next(waiting[place][0], waiting[place][1], told):
        place += 1
    return place


def layers_of(cloth):
    waiting = lifted_layers(cloth)
    told = {}
    layers = []
    while len(waiting) > 0:
        layer = waiting.pop(next_place(waiting, told))[1]
        layers.append(layer)
        for thread in layer:
            told[thread] = True
    return layers
