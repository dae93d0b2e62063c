"""Tests of railshut, for python3 -m unittest."""
