"""What several modules need: looks at any objects, ways along links, and ring texts without pieces."""


def rebuilt(value):
    """Returns an object with its lists and tuples, but not those in dicts and sets, built anew."""
    if isinstance(value, list):
        return [rebuilt(item) for item in value]
    if isinstance(value, tuple):
        return tuple([rebuilt(item) for item in value])
    return value


def is_whole(value):
    """Tells whether any object is an integer."""
    return isinstance(value, int) and not isinstance(value, bool)


def is_letters(value):
    """Tells whether any object is a text, perhaps empty, of small letters."""
    return isinstance(value, str) and all(["a" <= letter <= "z" for letter in value])


def is_ascending(value):
    """Tells whether any object is an ascending tuple, perhaps empty, of texts."""
    if not isinstance(value, tuple) or not all([isinstance(item, str) for item in value]):
        return False
    return all([one < other for one, other in zip(value, value[1:])])


def steps_of(size, text):
    """Returns the list of the texts of size letters that stand in a text, from the left."""
    return [text[at:at + size] for at in range(len(text) - size + 1)]


def text_of(steps):
    """Returns the text with these steps, from the left; there is at least one."""
    return steps[0] + "".join([step[-1] for step in steps[1:]])


def unrolled(ring, more):
    """Returns a ring text read once round and then on for so many letters more."""
    times = more // len(ring) + 2
    return (ring * times)[:len(ring) + more]


def begun(book):
    """Returns a dict from each place of a book to the list of the windows that begin there, all ascending."""
    ends = [window[:-1] for window in book[1]] + [window[1:] for window in book[1]]
    found = {place: [] for place in sorted(set(ends))}
    for window in book[1]:
        found[window[:-1]].append(window)
    return found


def turned(links):
    """Returns the links read the other way."""
    back = {node: [] for node in links}
    for node, others in links.items():
        for other in others:
            back[other].append(node)
    return back


def reached(starts, links):
    """Returns a dict of all that one comes to from starts, nearest first, each with what it is reached from.

    A start has None. What is equally near stands in the sequence of its ways: ways that begin
    with an earlier start or take an earlier link where they part come first.
    """
    found = {start: None for start in starts}
    front = list(found)
    while front:
        further = []
        for node in front:
            for other in links[node]:
                if other not in found:
                    found[other] = node
                    further.append(other)
        front = further
    return found


def trail(came, end):
    """Returns the list of all on the way from a start to an end, both with it, by what reached told."""
    path = [end]
    while came[path[-1]] is not None:
        path.append(came[path[-1]])
    path.reverse()
    return path


def ring_without(book, pieces):
    """Returns a ring text that fits a book and in which none of a list of pieces stands, None if there is none."""
    lot = lot_without(book, pieces)
    return None if lot is None else ring_through(book, lot)


def lot_without(book, pieces):
    """Returns links along which all windows but none of a list of pieces are read, None if there are none.

    They are all the links among states that lead to one another.
    """
    links = state_links(book, pieces)
    back = turned(links)
    done = {}
    for state in links:
        if state not in done:
            lot = joined_states(state, links, back)
            done.update(lot)
            if reads_all(book, lot):
                return lot
    return None


def state_links(book, pieces):
    """Returns a dict from each state to the list of the states that one letter more leads to.

    A state is all that one must keep of what was read so far to see a piece come: the longest
    end of it with which a piece begins, but at least the last place. Letters that end a piece,
    or that no window has there, lead nowhere.
    """
    size = book[0]
    starts = begun(book)
    heads = {piece[:end]: True for piece in pieces for end in range(size, len(piece))}
    links = {}
    waiting = list(starts)
    while waiting:
        state = waiting.pop()
        if state not in links:
            texts = [state + window[-1] for window in starts[state[1 - size:]]]
            links[state] = [kept_end(size, heads, text) for text in texts if not ends_piece(pieces, text)]
            waiting.extend(links[state])
    return links


def ends_piece(pieces, text):
    """Tells whether a text ends with one of the pieces."""
    return any([text.endswith(piece) for piece in pieces])


def kept_end(size, heads, text):
    """Returns the longest end of a text that is one of the heads, what pieces begin with, or else its last place."""
    for at in range(len(text) - size + 1):
        if text[at:] in heads:
            return text[at:]
    return text[1 - size:]


def joined_states(state, links, back):
    """Returns the links among all states that a state leads to and that lead to it."""
    behind = reached([state], back)
    ahead = reached([state], links)
    return {one: [other for other in links[one] if other in behind] for one in ahead if one in behind}


def window_read(size, state, target):
    """Returns the window that is read by going from a state to the next one."""
    return (state + target[-1])[-size:]


def reads_all(book, lot):
    """Tells whether each window of a book is read along one of these links."""
    size, windows = book
    return len({window_read(size, one, other) for one in lot for other in lot[one]}) == len(windows)


def ring_through(book, lot):
    """Returns a ring text that is read along these links, with all windows; each state leads to each other one."""
    size, windows = book
    left = {window: True for window in windows}
    walk = [min(lot)]
    while left:
        path = way_to_unread(size, lot, walk[-1], left)
        for target in path:
            left.pop(window_read(size, walk[-1], target), None)
            walk.append(target)
    walk.extend(trail(reached([walk[-1]], lot), walk[0])[1:])
    return "".join([state[-1] for state in walk[1:]])


def way_to_unread(size, lot, state, left):
    """Returns the states on a shortest way on from a state whose last link reads a window that is left."""
    came = reached([state], lot)
    for one in came:
        for other in lot[one]:
            if window_read(size, one, other) in left:
                return trail(came, one)[1:] + [other]
    return []
