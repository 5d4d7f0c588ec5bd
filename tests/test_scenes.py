"""Point [18]: scenes and frames, there and back."""

import random
import unittest

from meantrace.scenes import frames_of, scenes_of

FRAMES = ((0, 2), (0, 2), (1, 0), (1, 0), (0, 3))
SCENES = ((0, 1, 2), (2, 0, 1), (2, 1, 0), (4, 0, 0), (4, 1, 3))


class Scenes(unittest.TestCase):
    def test_what_changes(self):
        self.assertEqual(scenes_of(FRAMES), SCENES)

    def test_no_frames_and_no_gauges(self):
        self.assertEqual(scenes_of(()), ())
        self.assertEqual(scenes_of(((), ())), ())
        self.assertEqual(scenes_of(((0, 0), (0, 0))), ())

    def test_ahead_of_the_first_frame_all_are_0(self):
        self.assertEqual(scenes_of(((3, 0, -1),)), ((0, 0, 3), (0, 2, -1)))


class Frames(unittest.TestCase):
    def test_frames_are_had_back(self):
        self.assertEqual(frames_of(SCENES, 2, 5), FRAMES)

    def test_fewer_ticks(self):
        for ticks in range(5):
            self.assertEqual(frames_of(SCENES, 2, ticks), FRAMES[:ticks])

    def test_more_ticks(self):
        self.assertEqual(frames_of(SCENES, 2, 8), FRAMES + ((0, 3),) * 3)

    def test_more_gauges(self):
        self.assertEqual(frames_of(SCENES, 3, 3), ((0, 2, 0), (0, 2, 0), (1, 0, 0)))

    def test_no_scenes(self):
        self.assertEqual(frames_of((), 2, 2), ((0, 0), (0, 0)))
        self.assertEqual(frames_of((), 0, 2), ((), ()))
        self.assertEqual(frames_of((), 2, 0), ())

    def test_random_frames(self):
        dice = random.Random(18)
        for _ in range(100):
            many, ticks = dice.randint(0, 4), dice.randint(0, 8)
            frames = tuple(tuple(dice.randint(-1, 1) for _ in range(many)) for _ in range(ticks))
            scenes = scenes_of(frames)
            self.assertEqual(frames_of(scenes, many, ticks), frames)
            self.assertEqual(scenes, tuple(sorted(scenes)))


if __name__ == "__main__":
    unittest.main()
