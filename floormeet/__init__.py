"""Floormeet: houses in which two who meet part, one staying, one going up."""
