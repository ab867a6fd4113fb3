"""Samebuilds: the fewest things to hold fast so that a build comes out the same."""
