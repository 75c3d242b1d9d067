"""In how few walks from left to right every tree can be reckoned, or steps round by which no number is enough.

A step is a tuple of a form's name, the number of one of its rules, and one of that rule's readings. Its link is a
tuple of the form, the key of the rule, and the key of what is read.
"""

from boughworth.books import key_of, keys_of, rules_of, sort_at, sorts_of
from boughworth.formulas import readings_of
from boughworth.growth import forms_that_live
from boughworth.rings import ring_in, way_to
from boughworth.straight import keys_read_by_key


def holds(book, table):
    if set(table) != set(worths_of_book(book)) or not all([number >= 1 for number in table.values()]):
        return False
    if not all([is_kept(table, link) for link in links_by_step(book).values()]):
        return False
    return round_in_a_form(book) is None


def passes_of(book):
    steps = round_in_a_form(book)
    if steps is None:
        steps = round_with_a_late_step(book)
    return ("passes", least_table(book)) if steps is None else ("stuck", steps)


def is_stuck(book, steps):
    links = links_by_step(book)
    if not steps or not all([step in links for step in steps]):
        return False
    row = [links[step] for step in steps]
    following = row[1:] + row[:1]
    if not all([worth_read(one) == worth_told(other) for one, other in zip(row, following)]):
        return False
    if any([is_late(link) for link in row]):
        return True
    return all([is_read_there(one, other) for one, other in zip(row, following)])


def worths_of_book(book):
    found = []
    for name, downs, ups in sorts_of(book):
        found.extend([(name, word) for word in downs + ups])
    return found


def links_by_step(book):
    links = {}
    for form in forms_that_live(book):
        for number, rule in enumerate(rules_of(form)):
            for reading in readings_of(rule[2]):
                links[(form[0], number, reading)] = (form, rule[:2], key_of(reading))
    return links


def worth_told(link):
    return worth_at_key(link[0], link[1])


def worth_read(link):
    return worth_at_key(link[0], link[2])


def worth_at_key(form, key):
    return (sort_at(form, key[0]), key[1])


# Where the form has a rule for what is read, that is an own up or a part's down; where it has none, an own down or a
# part's up.
def is_late(link):
    at = link[1][0]
    read = link[2]
    if read == link[1]:
        return True
    if at == -1 or -1 < read[0] < at:
        return False
    if read[0] == -1:
        return read in keys_of(link[0])
    return read[0] > at or read not in keys_of(link[0])


def is_kept(table, link):
    told = table[worth_told(link)]
    read = table[worth_read(link)]
    return read < told or read == told and not is_late(link)


# Whether the one link reads, at the same form and the same at, just what the rule of the other one tells.
def is_read_there(one, other):
    return one[0] == other[0] and one[1][0] == other[1][0] and one[2] == other[1]


# Passes only grow, and no further than they must, so what they come to is the least table, where any holds.
def least_table(book):
    table = {}
    for worth in worths_of_book(book):
        table[worth] = 1
    steps_up = [(worth_told(link), worth_read(link), is_late(link)) for link in links_by_step(book).values()]
    before = None
    while table != before:
        before = dict(table)
        for told, read, late in steps_up:
            table[told] = max(table[told], table[read] + 1 if late else table[read])
    return table


# Rules of one live form, at one at; None where none read one another round.
def round_in_a_form(book):
    for form in forms_that_live(book):
        ring = ring_in(reads_at_one_at(form))
        if ring is not None:
            numbers = [keys_of(form).index(key) for key in ring]
            readings = [reading_of(key) for key in ring[1:] + ring[:1]]
            return [(form[0], number, reading) for number, reading in zip(numbers, readings)]
    return None


def reads_at_one_at(form):
    reads = {}
    for key, read in keys_read_by_key(form).items():
        reads[key] = [other for other in read if other[0] == key[0]]
    return reads


def reading_of(key):
    return ("own", key[1]) if key[0] == -1 else ("part", key[0], key[1])


# None where no late step comes back to the worth that its own rule tells.
def round_with_a_late_step(book):
    links = links_by_step(book)
    steps = {}
    reads = {}
    for worth in worths_of_book(book):
        reads[worth] = []
    for step, link in links.items():
        steps[(worth_told(link), worth_read(link))] = step
        reads[worth_told(link)].append(worth_read(link))
    for step, link in links.items():
        way = way_to(reads, worth_read(link), worth_told(link)) if is_late(link) else None
        if way is not None:
            return [step] + [steps[pair] for pair in zip(way, way[1:])]
    return None
