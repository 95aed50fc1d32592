"""Dyeweb: webs dyed so that no tie has one dye at both ends, and arrows that never go round."""
