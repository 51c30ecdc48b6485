"""Lines out of pieces: senders' bytes are cut into frames, decoded to lines and joined to records."""
