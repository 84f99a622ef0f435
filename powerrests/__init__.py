"""Powerrests: sums of powers by one row of numbers, and what lies around that row."""
