package postings

import (
	"math/rand"
	"slices"
	"testing"

	"lookout/api"
)

// triples yields valid lists: all of three sets of some numbers, and long ones that have numbers in common.
func triples() func(yield func(a, b, c []int) bool) {
	return func(yield func(a, b, c []int) bool) {
		sets := subsets(list(0, 1, 4, api.MaxInt))
		for _, a := range sets {
			for _, b := range sets {
				for _, c := range sets {
					if !yield(a, b, c) {
						return
					}
				}
			}
		}
		random := rand.New(rand.NewSource(8))
		for range 1500 {
			a, b := randomPair(random)
			c, _ := randomPair(random)
			if !yield(a, b, c) {
				return
			}
		}
	}
}

// P8.2: the results are valid, and a number is in them if and only if it should be.
func TestLawsOfSets(t *testing.T) {
	triples()(func(a, b, c []int) bool {
		and, or, without, all := And(a, b), Or(a, b), Without(a, b), Merge([][]int{a, b, c})
		for _, l := range [][]int{and, or, without, all} {
			if e := Check(l); e != api.OK {
				t.Errorf("%v and %v: %v, error %d", a, b, l, e)
			}
		}
		for _, n := range slices.Concat(a, b, c, list(2, 3)) {
			inA, inB, inC := slices.Contains(a, n), slices.Contains(b, n), slices.Contains(c, n)
			if slices.Contains(and, n) != (inA && inB) || slices.Contains(or, n) != (inA || inB) || slices.Contains(without, n) != (inA && !inB) || slices.Contains(all, n) != (inA || inB || inC) {
				t.Errorf("%d of %v, %v and %v: %v, %v, %v, %v", n, a, b, c, and, or, without, all)
			}
		}
		if len(or)+len(and) != len(a)+len(b) || len(and)+len(without) != len(a) {
			t.Errorf("%v and %v: %v, %v, %v", a, b, and, or, without)
		}
		return true
	})
}

// P8.2: each number is yielded once, in ascending order, with the lists that have it; who has seen enough can stop, and begin again.
func TestSideBySide(t *testing.T) {
	a, b := list(0, 3, 5, api.MaxInt), list(1, 3, api.MaxInt-1, api.MaxInt)
	want := list(0, 1, 3, 5, api.MaxInt-1, api.MaxInt)
	walk := sideBySide(a, b)
	for most := range len(want) + 1 {
		var l []int
		for n, has := range walk {
			if len(l) == most {
				break
			}
			l = append(l, n)
			if has.a != slices.Contains(a, n) || has.b != slices.Contains(b, n) {
				t.Errorf("%d: %v", n, has)
			}
		}
		checkNumbers(t, "the first", l, want[:most], most)
	}
}

// P8.3: And and Or are commutative, associative and idempotent, and distribute over each other; parts are taken away as all.
func TestLawsOfAlgebra(t *testing.T) {
	triples()(func(a, b, c []int) bool {
		for what, sides := range map[string][2][]int{
			"And is commutative":           {And(a, b), And(b, a)},
			"Or is commutative":            {Or(a, b), Or(b, a)},
			"And is associative":           {And(And(a, b), c), And(a, And(b, c))},
			"Or is associative":            {Or(Or(a, b), c), Or(a, Or(b, c))},
			"And is idempotent":            {And(a, a), a},
			"Or is idempotent":             {Or(a, a), a},
			"And distributes over Or":      {And(a, Or(b, c)), Or(And(a, b), And(a, c))},
			"Or distributes over And":      {Or(a, And(b, c)), And(Or(a, b), Or(a, c))},
			"Without one part and more":    {Without(Without(a, b), c), Without(a, Or(b, c))},
			"Without itself":               {Without(a, a), nil},
			"what is left and what is not": {Or(Without(a, b), And(a, b)), a},
		} {
			checkNumbers(t, what, sides[0], sides[1], a, b, c)
		}
		return true
	})
}

// P8.4: Merge is Or for all lists, in whatever order.
func TestLawsOfMerging(t *testing.T) {
	random := rand.New(rand.NewSource(9))
	for n := range 200 {
		var l [][]int
		var or []int
		for range n % 20 {
			a, _ := randomPair(random)
			l = append(l, a)
			or = Or(or, a)
		}
		for range 5 {
			checkNumbers(t, "Merge", Merge(l), or, l)
			random.Shuffle(len(l), func(i, k int) { l[i], l[k] = l[k], l[i] })
		}
		checkNumbers(t, "Merge", Merge(append(l, l...)), or, l)
		checkNumbers(t, "Merge", Merge(append(l, nil, or)), or, l)
	}
	for _, l := range subsets(list(0, 1, 4, api.MaxInt)) {
		checkNumbers(t, "Merge", Merge([][]int{l}), l, l)
	}
	checkNumbers(t, "Merge", Merge(nil), nil)
}

// P8.5: the numbers before a position are less than x, and the others are not.
func TestLawsOfPositions(t *testing.T) {
	random := rand.New(rand.NewSource(8))
	for range 1500 {
		l, others := randomPair(random)
		for _, x := range slices.Concat(l, others, list(-1, 0, api.MaxInt, api.MaxInt+1)) {
			i := Seek(l, x)
			isLess := func(n int) bool { return n < x }
			isNotLess := func(n int) bool { return n >= x }
			if i < 0 || i > len(l) || slices.ContainsFunc(l[:i], isNotLess) || slices.ContainsFunc(l[i:], isLess) {
				t.Errorf("Seek(%v, %d): %d", l, x, i)
			}
		}
	}
}

// P8.6: decoding an encoding yields the list, no two lists have the same encoding, and none is too short.
func TestLawsOfEncodings(t *testing.T) {
	seen := map[string][]int{}
	triples()(func(a, b, c []int) bool {
		for _, l := range [][]int{a, b, c} {
			s, e := Encode(l)
			decoded, eOfDecode := Decode(s)
			if e != api.OK || eOfDecode != api.OK || !slices.Equal(decoded, l) {
				t.Errorf("%v: %q, decoded %v, errors %d and %d", l, s, decoded, e, eOfDecode)
			}
			if len(s) < len(l)+1 {
				t.Errorf("%v has the encoding %q", l, s)
			}
			if other, is := seen[s]; is && !slices.Equal(other, l) {
				t.Errorf("%v and %v have the encoding %q", l, other, s)
			}
			seen[s] = l
		}
		return true
	})
}

// P8.6: what can be decoded is the encoding of the result, which is valid.
func TestLawsOfDecoding(t *testing.T) {
	random := rand.New(rand.NewSource(8))
	decoded := 0
	for range 200000 {
		b := make([]byte, 1+random.Intn(6))
		for i := range b {
			b[i] = byte(random.Intn(256)) >> random.Intn(8)
		}
		s := string(b)
		l, e := Decode(s)
		if e != api.OK {
			if len(l) != 0 {
				t.Errorf("%q: %v and error %d", s, l, e)
			}
			continue
		}
		decoded++
		if x, e := Encode(l); x != s || e != api.OK || Check(l) != api.OK {
			t.Errorf("%q: %v with the encoding %q, error %d", s, l, x, e)
		}
	}
	if decoded < 5000 {
		t.Errorf("only %d strings were decoded", decoded)
	}
}
