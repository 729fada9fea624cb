"""The cloths and states that the document's examples use, and values for wrong inputs."""

from zipslack.cloths import Cloth

A = Cloth((("line", 4, ((0, 0),)), ("line", 5, ((0, 1),))), (("parallel", 0),))
S = ((0, 1, 2),)
B = Cloth((("ring", 3, ((0, 0),)), ("line", 5, ((0, 1),))), (("parallel", 1),))
P = ((0, 0, 1),)
Q = ((0, 3, 1),)
R = ((1, 0, 1),)
C = Cloth((("ring", 2, ((0, 0),)), ("line", 3, ((0, 1),))), (("parallel", 2),))
T = ((0, 0, 2),)
D = Cloth(
    (("line", 3, ((0, 0), (1, 0))), ("line", 5, ((0, 1),)), ("line", 5, ((1, 1),))),
    (("parallel", 0), ("parallel", 0)),
)
U = ((0, 0, 0), (3, 2, 0))

# Values that are no tuple, or no tuple of what is asked for.
ODD_VALUES = (
    None,
    True,
    False,
    0,
    1,
    -1,
    10 ** 29,
    "",
    "line",
    "line 4\nline 5",
    [],
    [()],
    ([],),
    (None,),
    ("",),
    (True,),
    ((),),
    ((((((((),),),),),),),),
    [[[[[[[[]]]]]]]],
    (0,) * 2999,
    [0] * 2999,
    A,
    (A,),
)
