"""Words that a machine takes: how many there are, their places, and how they are drawn."""

from bitdraws.errors import NoPlace, NoShares
from bitdraws.evens import even
from bitdraws.kinds import is_row, is_whole_number
from bitdraws.orders import check_place

MOST_STATES = 5
LETTERS = "ab"


def is_machine(thing):
    if not is_row(thing, 2) or not isinstance(thing[0], tuple) or not isinstance(thing[1], tuple):
        return False
    states = len(thing[0])
    if states < 1 or states > MOST_STATES:
        return False
    return all([is_way_on(row, states) for row in thing[0]]) and are_ends(thing[1], states)


def is_way_on(thing, states):
    return is_row(thing, 2) and all([to is None or is_whole_number(to, 0, states - 1) for to in thing])


def are_ends(thing, states):
    if not all([is_whole_number(end, 0, states - 1) for end in thing]):
        return False
    return all([one < other for one, other in zip(thing, thing[1:])])


def led_to(machine, state, letter):
    if state is None or letter not in LETTERS:
        return None
    return machine[0][state][LETTERS.index(letter)]


def is_taken(machine, text):
    state = 0
    for letter in text:
        state = led_to(machine, state, letter)
    return state in machine[1]


def counts_by_length(machine, long):
    # For each length from 0 on, and for each state: how many words so long lead from it to an end.
    rows = machine[0]
    counts = [[1 if state in machine[1] else 0 for state in range(len(rows))]]
    for length in range(long):
        shorter = counts[length]
        counts.append([count_from(shorter, row[0]) + count_from(shorter, row[1]) for row in rows])
    return counts


def count_from(counts, state):
    return 0 if state is None else counts[state]


def count_words(machine, long):
    return counts_by_length(machine, long)[long][0] if long >= 0 else 0


def word_at(machine, long, place):
    check_place(place, count_words(machine, long))
    counts = counts_by_length(machine, long)
    letters = []
    state = 0
    rest = place
    for behind in range(long - 1, -1, -1):
        ahead = count_from(counts[behind], led_to(machine, state, "a"))
        letter = "a" if rest < ahead else "b"
        if letter == "b":
            rest = rest - ahead
        letters.append(letter)
        state = led_to(machine, state, letter)
    return "".join(letters)


def place_of_word(machine, text):
    if not is_taken(machine, text):
        raise NoPlace("the machine does not take this word")
    counts = counts_by_length(machine, len(text))
    place = 0
    state = 0
    for number, letter in enumerate(text):
        if letter == "b":
            place = place + count_from(counts[len(text) - 1 - number], led_to(machine, state, "a"))
        state = led_to(machine, state, letter)
    return place


def word(bits, machine, long):
    count = count_words(machine, long)
    # Asked first, for NoShares comes ahead of NoBits.
    if count == 0:
        raise NoShares("the machine takes no word so long")
    return word_at(machine, long, even(bits, count))
