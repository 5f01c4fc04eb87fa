package regex

import "lookout/api"

// position is a state that a part of a text has reached.
type position struct {
	state, start int
}

// run looks for the parts of a text that match.
type run struct {
	automaton
	text string
	// at is how many bytes have been read; now and later are the positions before and behind the next byte, each with ascending starts.
	at         int
	now, later []position
	// reached are the states that have been reached before the next byte.
	reached []bool
	best    api.Found
	found   bool
}

// search returns the leftmost longest part of s that p matches and that begins at last or before.
func search(p, s string, last int) (api.Found, bool) {
	e, errno := parse(p)
	if errno != api.OK {
		return api.Found{}, false
	}
	r := newRun(e, s)
	r.search(last)
	return r.best, r.found
}

func newRun(e expression, s string) *run {
	a := compile(e)
	return &run{automaton: a, text: s, reached: make([]bool, len(a.nodes))}
}

// search reads the text until no better part can be found.
func (r *run) search(last int) {
	for r.at = 0; r.at <= len(r.text); r.at++ {
		r.now, r.later = r.later, r.now[:0]
		if len(r.now) == 0 && (r.found || r.at > last) {
			return
		}
		clear(r.reached)
		for _, x := range r.now {
			r.reach(x.state, x.start)
		}
		if r.at <= last {
			r.reach(r.first, r.at)
		}
	}
}

// reach does what a state does, but only for the first one of the parts that reach it before the same byte: the other ones begin no earlier, and end where this one can end.
func (r *run) reach(state, start int) {
	if r.reached[state] || r.found && start > r.best.Start {
		return
	}
	r.reached[state] = true
	r.nodes[state].step(r, start)
}
