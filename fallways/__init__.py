"""Fallways: callers' own functions that write, and all falls that they may meet."""
