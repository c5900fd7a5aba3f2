"""A feed: books told to members over a net that loses, doubles and reorders."""
