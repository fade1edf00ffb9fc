package tree

import "gangway/api"

// The bits of a mode for others; those for the owner stand above them.
const (
	enter = 1 << iota
	write
	read
	owners // by how much the owner's weigh more
)

const (
	maxMode = owners*owners - 1
	topMode = (read|write|enter)*owners | read | enter
)

// isMode tells whether a number is a mode.
func isMode(n int) bool { return 0 <= n && n <= maxMode }

// may tells whether who may do with a node what a bit is for.
func may(who string, bit int, n *api.Node) bool {
	switch who {
	case api.Root:
		return true
	case n.Owner:
		bit *= owners
	}
	return n.Mode&bit != 0
}
