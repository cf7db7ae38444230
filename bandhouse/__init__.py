"""Rooms with stoves, and whether every room stays within its band."""
