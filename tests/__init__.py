"""Tests of forwardlists: `python3 -m unittest` at the top of the repository runs them all."""
