"""How long reading images and comparing steads takes, measured by what it takes to write them down on the same machine."""

import time
import unittest

from sendstead.images import read_image
from sendstead.steads import Stead

# Frames as many as may be, each a method's or a block's in turn, of a method with many names.
DEEP = """kind Main under Thing
method go n :
b := { x | if (x < 100) then do (self go (x + 1)) else end }
%sreturn (b call (n + 1))
end
end
""" % "".join("k%d := ((n + %d) * n)\n" % (at % 10, at) for at in range(18))
SMALL = """kind Node under Thing field a field b
method set x y : @a := x @b := y return self end
method sum : return (@a + @b) end
method many n : if (n < 1) then return self else do (self many (n - 1)) end return [n self @a] end
end
kind Main under Node field c
method go n : k := 0
while (k < n) then k := (k + 1) say k try do (self step k) taken w say (w what) end end return k end
method step k : x := new Node
do (x set k (k + 1))
@c := [x k { z | return (z + k) }]
if ((k rem 3) = 0) then raise 'odd else do ((@c at 2) call 4) end return (up many k) end
end
"""


def begun(text, beats, **more):
    """A stead that ran so far."""
    stead = Stead(quick=True, **more)
    stead.load("main", text)
    stead.begin("Main", "go", (5,))
    stead.run(beats)
    return stead


def least_time(act):
    """How long an act takes when nothing disturbs it."""
    times = []
    for _ in range(40):
        start = time.perf_counter()
        act()
        times.append(time.perf_counter() - start)
    return min(times)


class QuicknessTest(unittest.TestCase):
    def test_reading_many_frames_and_cells(self):
        stead = begun(DEEP, 410, room=400, deep=40)
        image = stead.image()
        self.assertEqual((len(image[6][5]), len(image[6][6]), len(image[2][0][4])), (37, 57, 126))
        self.assertTrue(read_image(image) == stead)
        self.assertLess(least_time(lambda: read_image(image)), 25 * least_time(stead.view))

    def test_reading_a_small_image(self):
        stead = begun(SMALL, 20)
        image = stead.image()
        self.assertTrue(read_image(image) == stead)
        self.assertLess(least_time(lambda: read_image(image)), 25 * least_time(stead.image))

    def test_comparing(self):
        for stead in (begun(SMALL, 20), begun(DEEP, 410, room=400, deep=40)):
            for other in (stead.twin(), read_image(stead.image())):
                self.assertTrue(stead == other)
                self.assertLess(least_time(lambda: stead == other), 6 * least_time(stead.image))


if __name__ == "__main__":
    unittest.main()
