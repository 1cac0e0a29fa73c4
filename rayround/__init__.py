"""Rayround: rays with whole numbers that go once round the plane."""
