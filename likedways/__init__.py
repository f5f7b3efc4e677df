"""Likedways: houses that tell their ways, each liking as it will."""
