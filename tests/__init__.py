"""The tests of refusedahead."""
