"""The tests of the project."""
