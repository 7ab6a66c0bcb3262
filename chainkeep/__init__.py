"""Chainkeep: a row of keepers that answers like one."""
