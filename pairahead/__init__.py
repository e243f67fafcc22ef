"""Pairahead: call sites whose case lists are rearranged by rules on pairs."""
