"""Deepedge: what a stack machine with bounded reach can still build."""
