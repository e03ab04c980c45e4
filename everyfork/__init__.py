"""Everyfork: what no input of any size can do, borne out by papers."""
