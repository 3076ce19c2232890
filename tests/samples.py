"""Things of many kinds that are passed where something else is due."""

from onepicture.desks import Desk
from onepicture.errors import BadPlay, NoHand
from onepicture.films import Reel
from onepicture.plays import Play
from onepicture.records import Record


def nested(depth, wrap):
    """An empty tuple, wrapped up so many times."""
    thing = ()
    for _ in range(depth):
        thing = wrap(thing)
    return thing


def strange_things():
    """Objects of built-in types and of the package: no hand, no weaving, no kind, no inputs."""
    return [
        None, True, False, -1, 5, 1000, 10 ** 19, -10 ** 19, "", "put", "see", "sweeps", "Sweep", "sweep ", "0", "\n",
        b"", b"sweep", bytearray(b"near"), memoryview(b"near"), {}, {0: 1}, {"kind": "sweep"}, {(0, 1): (2,)},
        range(0), range(3), slice(1), Ellipsis, NotImplemented, object(), int, len, BadPlay, lambda: 0,
        iter(()), enumerate([]), zip(), (item for item in []), ValueError("sweep"), strange_things,
        Play("chain", ((1,),)), Record(1, ()), BadPlay("kind"), NoHand(), Desk(),
        Reel(Play("chain", ((1,),)), (0,), 1),
        nested(39, lambda thing: (thing,)), nested(39, lambda thing: [thing]), nested(39, lambda thing: {1: thing}),
    ]
