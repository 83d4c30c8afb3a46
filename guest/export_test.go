package guest

import "pinnace/store"

// Begin lets a client be at an epoch: one by one the last ones are thousands of millions of Connects away.
func Begin(c *Client, epoch uint32) { c.epoch = epoch }

// Age lets a client that knows nobody have slots whose generations begin at first: one by one the last ones are millions of snapshots away.
func Age(c *Client, n, first int) { c.ents, _ = store.New(n, first) }
