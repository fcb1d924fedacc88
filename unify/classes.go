package unify

import (
	"slices"

	"sorites/api"
	"sorites/subst"
)

// node is a term of a pair, or a part of one, at one place: what stands at two
// places is two nodes.
type node struct {
	t     api.T
	first int // its parts are the nodes from there on; 0 till they are asked for, as the node 0 is nobody's part
	up    int // a node of its class, nearer to the head, or itself, if it is the head
	uses  int // how many parts of heads are of its class, if it is the head
}

// classes has the nodes that must become the same in one class. Its head is
// what all of it becomes but for what is put into that: a symbol with its
// parts, if the class has any, else the variable of the least number. This is
// what the unifier of the document comes to in whatever order pairs are taken,
// and no term has to be written out ahead of the end, so that a variable that
// stands in many places costs no more than one that doesn't.
type classes struct {
	nodes []node
	vars  map[int]int // the first node of each variable, by its number
	pairs [][2]int    // a stack of nodes that must become the same
}

func newClasses() *classes { return &classes{vars: map[int]int{}} }

func isVar(t api.T) bool { return t.F < 0 }

func number(variable api.T) int { return -1 - variable.F }

func (c *classes) add(t api.T) int {
	n := len(c.nodes)
	c.nodes = append(c.nodes, node{t: t, up: n})
	if !isVar(t) {
		return n
	}
	if first, ok := c.vars[number(t)]; ok {
		c.nodes[n].up = first
	} else {
		c.vars[number(t)] = n
	}
	return n
}

// parts are made nodes only when they are asked for, as most terms that can't
// become the same differ at the first symbol. They are the nodes from, and up
// to but not, the two that it tells.
func (c *classes) parts(n int) (int, int) {
	t := c.nodes[n].t
	if isVar(t) || len(t.L) == 0 {
		return 0, 0
	}
	if c.nodes[n].first == 0 {
		c.nodes[n].first = len(c.nodes)
		for _, part := range t.L {
			c.add(part)
		}
	}
	first := c.nodes[n].first
	return first, first + len(t.L)
}

// head makes the way to it shorter for the next time.
func (c *classes) head(n int) int {
	for c.nodes[n].up != n {
		c.nodes[n].up = c.nodes[c.nodes[n].up].up
		n = c.nodes[n].up
	}
	return n
}

// joinAll tells whether no two symbols stand against it. That a variable stands
// in its own term is seen later, in ordered.
func (c *classes) joinAll(l [][2]api.T) bool {
	for _, pair := range l {
		c.push(c.add(pair[0]), c.add(pair[1]))
		for len(c.pairs) > 0 {
			if !c.join(c.pop()) {
				return false
			}
		}
	}
	return true
}

func (c *classes) push(a, b int) { c.pairs = append(c.pairs, [2]int{a, b}) }

func (c *classes) pop() (int, int) {
	last := len(c.pairs) - 1
	pair := c.pairs[last]
	c.pairs = c.pairs[:last]
	return pair[0], pair[1]
}

// join makes one class of two; what their parts must become waits on the stack.
func (c *classes) join(a, b int) bool {
	a, b = c.head(a), c.head(b)
	if a == b {
		return true
	}
	// The lesser F is a variable's, if one of them is, and of two the one with
	// the greater number: it is bound.
	if c.nodes[a].t.F > c.nodes[b].t.F {
		a, b = b, a
	}
	lesser, greater := c.nodes[a].t, c.nodes[b].t
	if !isVar(lesser) {
		if lesser.F != greater.F || len(lesser.L) != len(greater.L) {
			return false
		}
		c.pushParts(a, b)
	}
	c.nodes[a].up = b
	return true
}

// pushParts pushes the first ones last, as they are to be looked at first.
func (c *classes) pushParts(a, b int) {
	from, to := c.parts(a)
	other, _ := c.parts(b)
	for n := to - from - 1; n >= 0; n-- {
		c.push(from+n, other+n)
	}
}

// ordered tells the heads, each ahead of those of its parts, and whether there
// is such an order: there is none, if a class stands in itself, at once or
// through others. It goes without recursion, since it may go through more
// nodes than any term has.
func (c *classes) ordered() ([]int, bool) {
	heads := c.countUses()
	var order []int
	for _, n := range heads {
		if c.nodes[n].uses == 0 {
			order = append(order, n)
		}
	}
	for at := 0; at < len(order); at++ {
		from, to := c.parts(order[at])
		for part := from; part < to; part++ {
			n := c.head(part)
			c.nodes[n].uses--
			if c.nodes[n].uses == 0 {
				order = append(order, n)
			}
		}
	}
	return order, len(order) == len(heads)
}

func (c *classes) countUses() []int {
	var heads []int
	// There come more nodes behind as parts are asked for.
	for n := 0; n < len(c.nodes); n++ {
		if c.head(n) != n {
			continue
		}
		heads = append(heads, n)
		from, to := c.parts(n)
		for part := from; part < to; part++ {
			c.nodes[c.head(part)].uses++
		}
	}
	return heads
}

// bindings has all variables, in no order, some of them bound to themselves,
// and their terms share memory: they are to be made normal.
func (c *classes) bindings(order []int) subst.S {
	terms := c.terms(order)
	s := make(subst.S, 0, len(c.vars))
	for v, n := range c.vars {
		s = append(s, subst.Bind{V: v, T: terms[c.head(n)]})
	}
	return s
}

// terms are what the heads become; those of parts are made ahead of those that
// they are put into.
func (c *classes) terms(order []int) []api.T {
	terms := make([]api.T, len(c.nodes))
	for _, n := range slices.Backward(order) {
		from, to := c.parts(n)
		list := make([]api.T, 0, to-from)
		for part := from; part < to; part++ {
			list = append(list, terms[c.head(part)])
		}
		terms[n] = api.T{F: c.nodes[n].t.F, L: list}
	}
	return terms
}
