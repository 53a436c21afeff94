"""Cupdraw: contests planned, paired, drawn, tabled and foretold."""
