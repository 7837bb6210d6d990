"""Beads of three kinds, two unlike ones of which meet and become one, or two, of the third kind."""
