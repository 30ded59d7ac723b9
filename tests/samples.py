"""Objects that several tests use: values, no two of them the same, and no values."""

VALUES = [
    0, 1, -1, 10 ** 12 - 1, 1 - 10 ** 12, True, False, None, "", "a", "1", "A b\n", "x" * 20,
    (), (1,), (True,), (None,), ("a",), (1, 2), (2, 1), ((1, 2),), ((1,), 2), (1, (2,)),
    ((), ()), ((),), (((1,),),), ((((True,),),),), ((((1,),),),), (1, "1", None, True, (), 0),
    tuple(range(8)), ("integer", 1), ("tuple", 0), ("none",), ("truth", 1),
]

NO_VALUES = [
    1.0, 0.0, float("nan"), 1j, b"", b"a", [], [1], {}, {"a": 1}, {1}, frozenset(), object(),
    int, len, range(3), bytearray(b"a"), ([],), (1, [2]), (1, 2.0), ((((0.5,),),),),
    (1, (2, (3, ({},)))), (None, b""),
]
