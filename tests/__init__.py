"""The tests of tablefind."""
