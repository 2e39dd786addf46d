"""What is about to happen in a duel, replaced and prevented."""
