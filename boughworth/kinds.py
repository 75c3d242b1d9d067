"""What a whole number and a word are, and which texts write whole numbers."""

MOST_LETTERS = 8


# Python counts truths among the ints; here they are no numbers.
def is_whole(thing):
    return isinstance(thing, int) and not isinstance(thing, bool)


def is_whole_within(thing, lowest, highest):
    return is_whole(thing) and lowest <= thing <= highest


# Each sign is compared by itself: isalpha and islower take letters beyond a to z, too.
def is_word(thing):
    if not isinstance(thing, str) or not 1 <= len(thing) <= MOST_LETTERS:
        return False
    return all(["a" <= sign <= "z" for sign in thing])


# By figures, no 0 ahead but 0 itself, - ahead where it is below 0. Each sign is compared by itself: int takes blanks,
# a + ahead and figures of other scripts, too.
def writes_whole(text, most_figures):
    figures = text[1:] if text.startswith("-") else text
    if not 1 <= len(figures) <= most_figures:
        return False
    return all(["0" <= sign <= "9" for sign in figures]) and str(int(text)) == text
