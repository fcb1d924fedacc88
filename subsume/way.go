package subsume

import (
	"slices"

	"sorites/api"
	"sorites/match"
	"sorites/subst"
)

// way goes from the first literal of c to the last one. Each binds those of its
// variables that none ahead of it has, so that a variable has one place among
// the bindings, whichever literals of d are taken.
type way struct {
	steps   []step
	targets []target
	place   map[int]int // of each variable
	binder  []int       // by places: the step that binds what stands there
	bound   subst.S
}

// step is a literal of c.
type step struct {
	neg     bool
	pattern api.T
	start   int   // how many variables are bound ahead of it
	next    int   // the target that is tried next
	blamed  []int // the steps ahead that bound what was in the way, in order, each once
}

// target is a literal of d, as it stands or turned about.
type target struct {
	neg  bool
	term api.T
}

func newWay(c, d api.Clause) *way {
	w := &way{place: map[int]int{}}
	for n, l := range c {
		w.steps = append(w.steps, step{neg: l.Neg, pattern: both(l.A, l.B), start: len(w.binder)})
		w.give(n)
	}
	for _, l := range d {
		w.targets = append(w.targets, target{l.Neg, both(l.A, l.B)}, target{l.Neg, both(l.B, l.A)})
	}
	return w
}

// both has two sides as one term, so that they are matched in one go.
func both(a, b api.T) api.T { return api.T{L: []api.T{a, b}} }

// give has places for variables that first stand in a step: its pattern matches
// itself, by a binding for each of its variables.
func (w *way) give(n int) {
	own, _ := match.Match(nil, w.steps[n].pattern, w.steps[n].pattern)
	for _, b := range own {
		if _, ok := w.place[b.V]; !ok {
			w.place[b.V] = len(w.binder)
			w.binder = append(w.binder, n)
		}
	}
}

// find goes back, from a step that is left without a target, to the last one of
// those that bound what was in its way: no other choice of a step between them
// would be of use to it.
func (w *way) find() bool {
	for n := 0; n < len(w.steps); {
		if w.fit(n) {
			n++
			continue
		}
		blamed := w.steps[n].blamed
		last := len(blamed) - 1
		if last < 0 {
			return false
		}
		for ; n > blamed[last]; n-- {
			w.steps[n].next, w.steps[n].blamed = 0, nil
		}
		// With those ahead of it as they are, none of its choices so far led on.
		w.steps[n].blame(blamed[:last]...)
	}
	return true
}

// fit takes the next target that fits, behind what the steps ahead bound.
func (w *way) fit(n int) bool {
	s := &w.steps[n]
	w.bound = w.bound[:s.start]
	for s.next < len(w.targets) {
		t := w.targets[s.next]
		s.next++
		if t.neg == s.neg && w.take(s, t) {
			return true
		}
	}
	return false
}

// take matches behind nothing, so that it shows which of those ahead bound what
// is in the way.
func (w *way) take(s *step, t target) bool {
	all, ok := match.Match(nil, s.pattern, t.term)
	if !ok {
		return false
	}
	for n, b := range all {
		at := w.place[b.V]
		if at < s.start && !subst.Alike(w.bound[at:at+1], all[n:n+1], []int{b.V}) {
			s.blame(w.binder[at])
			return false
		}
	}
	for _, b := range all {
		if w.place[b.V] >= s.start {
			w.bound = append(w.bound, b)
		}
	}
	return true
}

func (s *step) blame(steps ...int) {
	for _, n := range steps {
		if at, is := slices.BinarySearch(s.blamed, n); !is {
			s.blamed = slices.Insert(s.blamed, at, n)
		}
	}
}
