"""What each word does. Each deed tells the place of the word that comes next."""

from byteround.wordfalls import fall_of, leads_away, place_used, place_walked_to

NUMBER_REST = 65536
BYTE_REST = 256


def do_halt(state, word):
    state.ending = ("halt", state.at)
    return None


def do_out(state, word):
    state.said.append(state.numbers[word.letters])
    return word.behind


def do_in(state, word):
    state.numbers[word.letters] = state.wanted[state.read]
    state.read += 1
    return word.behind


def do_push(state, word):
    state.piled.append(state.numbers[word.letters])
    return word.behind


def do_pop(state, word):
    state.numbers[word.letters] = state.piled.pop()
    return word.behind


def do_set(state, word):
    state.numbers[word.letters] = word.number
    return word.behind


def do_copy(state, word):
    one, other = word.letters
    state.numbers[one] = state.numbers[other]
    return word.behind


def do_add(state, word):
    one, other = word.letters
    state.numbers[one] = (state.numbers[one] + state.numbers[other]) % NUMBER_REST
    return word.behind


def do_less(state, word):
    one, other = word.letters
    state.numbers[one] = (state.numbers[one] - state.numbers[other]) % NUMBER_REST
    return word.behind


def do_times(state, word):
    one, other = word.letters
    state.numbers[one] = state.numbers[one] * state.numbers[other] % NUMBER_REST
    return word.behind


def do_go(state, word):
    return word.target


def do_call(state, word):
    state.piled.append(state.at)
    return word.target


def do_back(state, word):
    return state.words[state.piled.pop()].behind


def do_if(state, word):
    return word.target if leads_away(state, word) else word.behind


def do_point(state, word):
    state.pointers[word.letters] = word.target
    return word.behind


def do_walk(state, word):
    state.pointers[word.letters[0]] = place_walked_to(state, word)
    return word.behind


def do_load(state, word):
    state.numbers[word.letters[0]] = state.memory.byte(place_used(state, word))
    return word.behind


def do_store(state, word):
    state.memory.put_byte(place_used(state, word), state.numbers[word.letters[0]] % BYTE_REST)
    return word.behind


def do_same(state, word):
    state.numbers[word.letters] = 1 if state.pointers["p"] == state.pointers["q"] else 0
    return word.behind


def do_move(state, word):
    one, other = word.letters
    state.pointers[one] = state.pointers[other]
    return word.behind


def do_take(state, word):
    state.pointers[word.letters[0]] = state.memory.held(place_used(state, word))
    return word.behind


def do_keep(state, word):
    state.memory.hold(place_used(state, word), state.pointers[word.letters[0]])
    return word.behind


def do_goat(state, word):
    return place_used(state, word)


def do_callat(state, word):
    state.piled.append(state.at)
    return place_used(state, word)


def do_none(state, word):
    number, pointer = word.letters
    state.numbers[number] = 1 if state.pointers[pointer] is None else 0
    return word.behind


DEEDS = {
    "halt": do_halt, "back": do_back, "out": do_out, "in": do_in, "push": do_push, "pop": do_pop, "set": do_set,
    "copy": do_copy, "add": do_add, "less": do_less, "times": do_times, "go": do_go, "call": do_call, "if": do_if,
    "point": do_point, "walk": do_walk, "turn": do_walk, "load": do_load, "store": do_store, "same": do_same,
    "move": do_move, "take": do_take, "keep": do_keep, "callat": do_callat, "goat": do_goat, "none": do_none,
}


def do_steps(state, many):
    """Does at most so many words, and tells how many were done."""
    done = 0
    while done < many and state.ending is None and did_next(state):
        done += 1
    return done


def did_next(state):
    """Tries the next word, and tells whether it was done: a word that falls does nothing."""
    place = state.at
    word = state.words[place]
    fall = fall_of(state, word)
    if fall is not None:
        state.ending = (fall, place)
        state.at = None
        return False
    deed = DEEDS[word.name]
    state.at = deed(state, word)
    state.counts[place] = state.counts.get(place, 0) + 1
    return True
