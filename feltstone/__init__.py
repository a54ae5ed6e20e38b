"""Feltstone: what is known of a convex stone that was only felt."""
