"""Tests of eightsides."""
