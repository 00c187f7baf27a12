"""A land by season: places and legs told by a text that is edited line by line."""
