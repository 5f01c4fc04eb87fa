package regex

import (
	"slices"

	"lookout/api"
)

// node is a state of an automaton. What the state does with a part of a text that has reached it, is step.
type node struct {
	step func(r *run, start int)
}

// automaton has the states of an expression. Those of its parts are added from the last part to the first one, since a state must know the next one.
type automaton struct {
	nodes []node
	first int
}

func compile(e expression) automaton {
	var a automaton
	a.first = a.expression(e, a.add(finish))
	return a
}

// add returns a new state.
func (a *automaton) add(step func(r *run, start int)) int {
	a.nodes = append(a.nodes, node{step})
	return len(a.nodes) - 1
}

// expression adds the states of e, behind which next is reached, and returns the first one.
func (a *automaton) expression(e expression, next int) int {
	var firsts []int
	for _, x := range e {
		firsts = append(firsts, a.alternative(x, next))
	}
	return a.add(fork(firsts...))
}

func (a *automaton) alternative(l alternative, next int) int {
	for _, f := range slices.Backward(l) {
		next = a.factor(f, next)
	}
	return next
}

func (a *automaton) factor(f factor, next int) int {
	switch f.repeat {
	case '?':
		return a.add(fork(a.atom(f, next), next))
	case '*', '+':
		// The loop comes before the atom, because it is reached behind it.
		loop := a.add(nil)
		first := a.atom(f, loop)
		a.nodes[loop].step = fork(first, next)
		if f.repeat == '+' {
			return first
		}
		return loop
	default:
		return a.atom(f, next)
	}
}

func (a *automaton) atom(f factor, next int) int {
	if f.inner != nil {
		return a.expression(f.inner, next)
	}
	return a.add(read(f.bytes, next))
}

// read is the step of a state that a byte of c takes to next.
func read(c class, next int) func(r *run, start int) {
	return func(r *run, start int) {
		if r.at < len(r.text) && c[r.text[r.at]] {
			r.later = append(r.later, position{next, start})
		}
	}
}

// fork is the step of a state behind which others are reached without a byte.
func fork(states ...int) func(r *run, start int) {
	return func(r *run, start int) {
		for _, state := range states {
			r.reach(state, start)
		}
	}
}

// finish is the step of the last state. Only parts that are better than the best one so far get there: reach stops the other ones.
func finish(r *run, start int) {
	r.best, r.found = api.Found{Start: start, End: r.at}, true
}
