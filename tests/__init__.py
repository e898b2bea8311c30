"""Tests of cornerfade."""
