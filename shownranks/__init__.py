"""A house of texts, asked by words, each rank shown."""
