"""Games from which just so many standings are reached."""

from tests.oracle import game_of

# Pairs (game, standing), 400 reached from each: gains of both sides and rounds, a far gain, a standing of worth 0.
FOUR_HUNDRED = [
    (game_of("bcz", 5, ((("b", "z"), ("bcc", "czb"), ("cb", "zc"), ("czz", "bbb")), (("b", "z"), ("zz", "bc"))),
             ((0, "cczc", -1), (1, "bc", -5), (1, "bcc", 1), (1, "cbczb", 2)), (4, 3)), (0, "bczzc")),
    (game_of("zc.", 5, ((("cc", "c."), ("cc", "z."), ("zc", ".c"), ("zz", "..")),
                        (("c..", "czc"), ("z", "c"), ("z..", "czz"))),
             ((1, ".cz", -2), (2, "..z.", -7), (2, "z.c", -2)), (0, -4), "ring"), (1, ".zcc.")),
    (game_of("cz.", 5, ((("z", "c"), ("zcc", "z.."), ("zzc", "zz.")), ((".", "z"), ("..z", ".cc"), ("z", "."))),
             ((0, "zccz.", -9), (2, "c..z", 1), (2, "cz", 5)), (0, 0)), (1, "z.c.c")),
]

# The same with 401.
ONE_MORE = [
    (game_of("cbz", 7, ((("c", "b"), ("zc", "cc"), ("zzz", "ccz")), (("c", "b"), ("c", "z"), ("cz", "bc"))),
             ((0, "bbb", 1), (2, "zbcbb", 9)), (-2, -9), "ring"), (1, "czcbcbz")),
    (game_of("acz", 7, ((("cz", "zz"), ("zz", "ac"), ("zz", "ca")), (("a", "c"), ("cz", "zc"))), (), (4, 3)),
     (0, "zzaczca")),
]
