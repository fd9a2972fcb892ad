"""Turnweave: ways of turning shapes, moved behind one another."""
