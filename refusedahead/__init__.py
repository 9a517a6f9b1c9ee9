"""Refusedahead: conditions that may err, asked in any order."""
