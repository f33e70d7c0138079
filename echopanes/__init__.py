"""Echopanes: panes that throw back part of each cry."""
