import unittest

from keptrest.standings import cut, frame_words, kont_words, reached, start, thing_words, weight


def thing(address):
    return ("thing", address)


T0, T1, T2, T3, T4 = [thing(k) for k in range(5)]
ENV = ((0, 5), (2, T1))


class Words(unittest.TestCase):
    def test_things(self):
        for made, words in ((("pair", 1, 2), 2), (("box", T0), 1), (("fn", (), ()), 1), (("fn", (1,), ENV), 3),
                            (("kept", (), ()), 2), (("kept", (("inside", ()), ("set", (), T0)), T1), 5),
                            (("wind", (), T0, T1, ()), 3), (("wind", (1,), T0, T1, T2), 3)):
            self.assertEqual(thing_words(made), words, made)

    FRAMES = (
        (("if", (), ENV), 3), (("if", (), ()), 1), (("let", (), ENV), 3), (("seq", (), ENV[:1]), 2), (("set", (), T0), 2),
        (("args", (), (), ()), 1), (("args", (), (1, T0, ()), ENV), 6), (("args", (), (1,), ()), 2),
        (("began", (), T0, T1, T2), 4), (("inside", ()), 1), (("ended", (), ()), 2), (("leaving", (), T0, 1), 3),
        (("entering", (), T0, 1, T2), 4),
    )

    def test_frames(self):
        for frame, words in self.FRAMES:
            self.assertEqual(frame_words(frame), words, frame)

    def test_konts(self):
        frames = tuple(frame for frame, _ in self.FRAMES)
        self.assertEqual(kont_words(frames), sum(words for _, words in self.FRAMES))
        self.assertEqual(kont_words(()), 0)

    def test_cut(self):
        self.assertEqual(cut(ENV, (2,)), ((2, T1),))
        self.assertEqual(cut(ENV, (5, 2, 0)), ENV)
        self.assertEqual(cut(ENV, ()), ())
        self.assertEqual(cut((), (0, 1)), ())

    def test_start(self):
        program = ("const", 1)
        self.assertEqual(start(program, (1, True)), (("eval", (), ()), (), (), (), (1, True), ()))
        self.assertEqual(start(program, ()), (("eval", (), ()), (), (), (), (), ()))


class Reached(unittest.TestCase):
    def check(self, standing, addresses, words):
        self.assertEqual(reached(standing), addresses)
        self.assertEqual(weight(standing), words)

    def standing(self, control=("give", ()), kont=(), winds=(), store=()):
        return (control, kont, winds, store, (), ())

    def test_nothing(self):
        self.check(self.standing(), (), 0)
        self.check(self.standing(store=(("pair", 1, 2), ("box", 1))), (), 0)
        self.check(self.standing(("give", ("name", "thing"))), (), 0)

    def test_control(self):
        store = (("pair", T1, 2), ("pair", 1, T0), ("box", 5))
        self.check(self.standing(("give", T0), store=store), (0, 1), 4)
        self.check(self.standing(("eval", (), ((0, T2), (1, 5))), store=store), (2,), 1)
        self.check(self.standing(("eval", (), ((0, T2), (1, T1))), store=store), (0, 1, 2), 5)

    def test_frames(self):
        for frame in (("if", (), ((0, T0),)), ("let", (), ((0, 1), (1, T0))), ("seq", (), ((0, T0),)), ("set", (), T0),
                      ("args", (), (1, T0), ()), ("args", (), (), ((3, T0),)), ("began", (), T0, 1, 2), ("began", (), 1, T0, 2),
                      ("began", (), 1, 2, T0), ("ended", (), T0), ("leaving", (), T0, 1), ("leaving", (), 1, T0),
                      ("entering", (), T0, 1, ()), ("entering", (), 1, T0, ()), ("entering", (), 1, 2, T0)):
            self.check(self.standing(kont=(("inside", ()), frame), store=(("box", 1),)), (0,), 1)
            self.check(self.standing(kont=(frame, ("inside", ())), store=(("box", 1),)), (0,), 1)
            kept = (("box", 1), ("kept", (frame,), ()))
            self.check(self.standing(("give", T1), store=kept), (0, 1), 3 + frame_words(frame))

    def test_things(self):
        for made in (("pair", T1, ()), ("pair", (), T1), ("box", T1), ("fn", (), ((0, 1), (1, T1))), ("kept", (), T1),
                     ("wind", (), T1, 1, ()), ("wind", (), 1, T1, ()), ("wind", (), 1, 1, T1)):
            self.check(self.standing(("give", T0), store=(made, ("box", ()), ("box", ()))), (0, 1), thing_words(made) + 1)

    def test_winds(self):
        store = (("wind", (), 1, 2, T1), ("wind", (), 1, 2, ()), ("box", 1))
        self.check(self.standing(winds=T0, store=store), (0, 1), 6)
        self.check(self.standing(winds=T1, store=store), (1,), 3)

    def test_rings(self):
        store = (("pair", T1, T2), ("box", T0), ("fn", (), ((0, T1),)), ("pair", T3, T3))
        self.check(self.standing(("give", T2), store=store), (0, 1, 2), 5)
        self.check(self.standing(("give", T3), store=store), (3,), 2)

    def test_long_rows(self):
        store = tuple(("pair", 1, thing(k + 1)) for k in range(9999)) + (("pair", 1, ()),)
        self.check(self.standing(("give", T0), store=store), tuple(range(10000)), 20000)


if __name__ == "__main__":
    unittest.main()
