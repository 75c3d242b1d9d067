"""Whether a list of spots is a ring of a tree, or a whole order of it."""

from boughworth.spots import reads_of_tree


def is_ring(book, tree, spots):
    reads = reads_of_tree(book, tree)
    if not spots or len(set(spots)) != len(spots):
        return False
    return all([one in reads and other in reads[one] for one, other in zip(spots, spots[1:] + spots[:1])])


def is_order(book, tree, spots):
    reads = reads_of_tree(book, tree)
    ahead = {}
    for spot in spots:
        if spot not in reads or spot in ahead or not all([other in ahead for other in reads[spot]]):
            return False
        ahead[spot] = True
    return len(ahead) == len(reads)
