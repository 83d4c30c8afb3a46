package guest

import "pinnace/store"

// Begin lets a client be at an epoch to which no test could connect one by one.
func Begin(c *Client, epoch uint32) { c.epoch = epoch }

// Age lets a client that knows nobody have slots whose generations begin at first, since no test could use up all of them.
func Age(c *Client, n, first int) { c.ents, _ = store.New(n, first) }
