"""Calledroom: rooms that one hand enters at a time, with bells to wait at and calls within."""
