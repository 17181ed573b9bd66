"""Values and helpers that several tests use."""

import sys

NO_STRINGS = [None, True, False, 0, 1, -1, 10 ** 29, [], ['a'], (), ('a',), {}, {'a': 1}, b'', b'a', set(), {'a'}]

NO_PATHS = [None, True, False, 0, -1, 'a', '', b'', [], [0], {}, {0: 0}, set(), (None,), ('0',), ([],), ((),), ((0,),),
            (True,), (False,), (-1,), (0, True), (0, False), (0, -1), (0, None), (0, [0]), (99,), (0, 99), (10 ** 29,),
            (0,) * 20000, ({},)]

NO_INTEGERS = [None, True, False, '0', '', b'0', [], [0], (), (0,), {}, set()]

NO_NAMES = [None, True, False, 0, 1, '', 'A', 'aB', 'a1', '1', 'a b', ' a', 'a ', 'a.b', '.a', 'a,', 'a_b', '*', 'a\n',
            'abcdefghi', b'a', [], ['a'], (), ('a',), {}, {'a': 1}, set()]


def raised(kind, call, *arguments, **named):
    """Return the error of exactly this class that a call raises."""
    try:
        result = call(*arguments, **named)
    except kind as error:
        if error.__class__ is not kind:
            raise AssertionError(f'{error!r} is of a subclass of {kind}')
        return error
    raise AssertionError(f'{call} returned {result!r}, not {kind}')


def calls(work):
    """Return how many calls are made; a count does not depend on the machine, as seconds do."""
    made = [0]

    def count(frame, event, detail):
        made[0] += event in ('call', 'c_call')

    before = sys.getprofile()
    sys.setprofile(count)
    try:
        work()
    finally:
        sys.setprofile(before)
    return made[0]
