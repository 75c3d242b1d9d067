"""What a whole number and a word are."""

MOST_LETTERS = 8


# Python counts truths among the ints; here they are no numbers.
def is_whole(thing):
    return isinstance(thing, int) and not isinstance(thing, bool)


def is_whole_within(thing, lowest, highest):
    return is_whole(thing) and lowest <= thing <= highest


# Each sign is compared by itself: isalpha and islower take letters beyond a to z, too.
def is_word(thing):
    if not isinstance(thing, str) or not 1 <= len(thing) <= MOST_LETTERS:
        return False
    return all(["a" <= sign <= "z" for sign in thing])
