"""The project's tests: one file test_*.py for each range of points, and what they share."""
