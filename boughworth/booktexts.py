"""Books written as texts, and texts read as books."""

from boughworth.books import forms_of, has_shape, need_book, rules_of, sorts_of, wheel_of
from boughworth.errors import NoText
from boughworth.formulatexts import PART_FIGURES, read_formula, show_formula
from boughworth.kinds import writes_whole

MOST_WHEEL_FIGURES = 31


def show_book(book):
    lines = ["wheel " + str(wheel_of(book))]
    for name, downs, ups in sorts_of(book):
        lines.append(" ".join(("sort", name, "down") + downs + ("/", "up") + ups))
    for form in forms_of(book):
        lines.append(" ".join(("form", form[0], form[1], "of") + form[2]))
        lines.extend([show_rule(rule) for rule in rules_of(form)])
    return "\n".join(lines)


def show_rule(rule):
    at = "up" if rule[0] == -1 else str(rule[0])
    return at + "." + rule[1] + " = " + show_formula(rule[2])


# The lines alone tell which tuple it can be; whether all words, blanks and lines stand as they should is seen when
# that tuple is written.
def read_book(text):
    made = tuple_of_lines(text.split("\n"))
    if not has_shape(made) or show_book(made) != text:
        raise NoText("this text writes no book")
    need_book(made)
    return made


# Perhaps with names that are no words, or of more things than a book may have.
def tuple_of_lines(lines):
    wheel = read_wheel(lines[0])
    sorts = []
    forms = []
    for line in lines[1:]:
        words = line.split(" ")
        if words[0] == "sort":
            sorts.append(read_sort(words))
        elif words[0] == "form":
            forms.append(read_form(words))
        elif forms:
            forms[-1] = forms[-1][:3] + (rules_of(forms[-1]) + (read_rule(line),),)
        else:
            raise NoText("a rule stands ahead of all forms")
    return (wheel, tuple(sorts), tuple(forms))


def read_wheel(line):
    figures = line.partition(" ")[2]
    if not writes_whole(figures, MOST_WHEEL_FIGURES):
        raise NoText("the first line tells no wheel")
    return int(figures)


def read_sort(words):
    if "/" not in words:
        raise NoText("this line tells no sort")
    cut = words.index("/")
    return (words[1], tuple(words[3:cut]), tuple(words[cut + 2:]))


# Without rules, which stand in the next lines.
def read_form(words):
    if len(words) < 3:
        raise NoText("this line tells no form")
    return (words[1], words[2], tuple(words[4:]), ())


def read_rule(line):
    cut = line.partition(" = ")
    head = cut[0].partition(".")
    if head[0] != "up" and head[0] not in PART_FIGURES:
        raise NoText("this line tells no rule")
    at = -1 if head[0] == "up" else int(head[0])
    return (at, head[2], read_formula(cut[2]))
