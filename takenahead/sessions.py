"""What a step does to one session and to the reserve, and when a session waits (points 10 and 11).

A session is a tuple (place, locks, transaction, store): its place, the ascending tuple of the names of its locks,
and two tuples of numbers. The numbers may have any form, if they stand in the order of the numbers, the least one
first. So the same rules hold for the numbers of a schedule and for the described numbers of a state.
"""

# A session at the beginning and after a crash.
FRESH = ((0,), (), (), ())


def executed(script, session, answer):
    """Executes the next statement of a session that does not wait; a take needs a store that is not empty.

    Returns the session after it, the numbers that it commits and the numbers that it loses.
    """
    place, locks, transaction, store = session
    statement = script[place]
    word = statement[0]
    committed = lost = ()
    if word == "take":
        transaction, store = transaction + store[:1], store[1:]
    elif word == "commit":
        committed, transaction = transaction, ()
    elif word == "rollback":
        lost, transaction = transaction, ()
    elif word == "drop":
        lost, store = store, ()
    elif word == "leave":
        lost, transaction, store = transaction + store, (), ()
    elif word == "lock":
        locks = with_lock(locks, statement[1])
    elif word == "unlock":
        locks = tuple([name for name in locks if name != statement[1]])
    following = script.after(place, answer)
    if following is None:
        # The end of the script, and of a leave too, which has lost its transaction already.
        return ((0,), (), (), store), committed, lost + transaction
    return (following, locks, transaction, store), committed, lost


def with_lock(locks, name):
    return locks if name in locks else tuple(sorted([*locks, name]))


def next_statement(system, sessions, session):
    """The statement that the session with this number executes next."""
    return system.kind_of(session).script[sessions[session][0]]


def needs_block(system, sessions, session):
    """Tells whether the next statement of a session takes a number that its store does not have."""
    store = sessions[session][3]
    return not store and next_statement(system, sessions, session)[0] == "take"


def must_wait(system, sessions, session, width):
    """Tells whether the session with this number waits.

    `width` is the height minus the least number that is out, or None if no number is out.
    """
    statement = next_statement(system, sessions, session)
    if statement[0] == "lock":
        return any([statement[1] in other[1] for at, other in enumerate(sessions) if at != session])
    if system.window is None or width is None or not needs_block(system, sessions, session):
        return False
    return width + system.kind_of(session).block > system.window


def reserve_after(system, reserve, block):
    """The noted height minus the height, after a block is handed out; `reserve` is that before."""
    return reserve - block if block <= reserve else system.ahead
