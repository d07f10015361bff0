"""The tests of facehouse."""
