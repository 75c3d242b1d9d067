"""Orders and rings of things that read one another, told of a dict from each thing to the list of those that it reads.

Nothing here calls itself: some hundred things may read one another in a row.
"""


# Of all that hang on no ring, each behind those that it reads.
def order_of(reads):
    readers = readers_of(reads)
    still_to_come = {}
    for one, read in reads.items():
        still_to_come[one] = len(read)
    order = [one for one in reads if still_to_come[one] == 0]
    done = 0
    while done < len(order):
        one = order[done]
        done += 1
        for reader in readers[one]:
            still_to_come[reader] -= 1
            if still_to_come[reader] == 0:
                order.append(reader)
    return order


def readers_of(reads):
    readers = {}
    for one in reads:
        readers[one] = []
    for one, read in reads.items():
        for other in read:
            readers[other].append(one)
    return readers


# None where there is no ring.
def ring_in(reads):
    hanging = hanging_of(reads)
    return ring_from(reads, list(hanging)[0]) if hanging else None


# All that hang on a ring, as the keys of a dict.
def hanging_of(reads):
    hanging = dict(reads)
    for one in order_of(reads):
        hanging.pop(one)
    return hanging


# Each that hangs on a ring reads another one that does, so the way from the start, which is to hang on one, comes back
# to itself at last.
def ring_from(reads, start):
    hanging = hanging_of(reads)
    way = {}
    one = start
    while one not in way:
        way[one] = len(way)
        one = [other for other in reads[one] if other in hanging][0]
    return list(way)[way[one]:]


# From the start itself, and all that it comes to by reading on, to the one by which each was found first.
def found_from(reads, start):
    found = {start: None}
    waiting = [start]
    while waiting:
        one = waiting.pop()
        for other in reads[one]:
            if other not in found:
                found[other] = one
                waiting.append(other)
    return found


# Only the start and those that it comes to, with what they read.
def reads_from(reads, start):
    fewer = {}
    for one in found_from(reads, start):
        fewer[one] = reads[one]
    return fewer


# Each one of the way reads the next one; None where the start does not come to the goal. To itself it comes by no step.
def way_to(reads, start, goal):
    found = found_from(reads, start)
    if goal not in found:
        return None
    way = [goal]
    while way[-1] != start:
        way.append(found[way[-1]])
    return way[::-1]
