package labels

import (
	"hash/fnv"
	"slices"
	"strings"
	"testing"

	"lookout/api"
)

// wantHash is what HashString must return, by the standard library.
func wantHash(s string) int {
	h := fnv.New32a()
	h.Write([]byte(s))
	return int(h.Sum32())
}

// sets returns label sets: all of few labels, and some with the greatest numbers and lengths.
func sets() [][]api.Label {
	var l [][]api.Label
	few := list("A", "1", "A", "\"", "_", "\\", "_", "\n", "a", "1", "a", "\\n", "a", notText, "b", "1", "b", strings.Repeat("\"", 200), "b9", "{a=\"x\",}")
	for _, x := range tuples(few, 4) {
		if Check(x) == api.OK {
			l = append(l, x)
		}
	}
	for n := range 17 {
		l = append(l, many(n))
	}
	return append(l, list(strings.Repeat("a", 59), "x", strings.Repeat("a", 60), strings.Repeat("\n", 200)))
}

// P5.2: the text of a label set is parsed as this set.
func TestTextsOfSets(t *testing.T) {
	all := sets()
	seen := map[string]int{}
	for i, l := range all {
		s := Format(l)
		if m, e := Parse(s); e != api.OK || !slices.Equal(m, l) {
			t.Errorf("%q: %q, error %d", l, m, e)
		}
		if k, is := seen[s]; is && !slices.Equal(l, all[k]) {
			t.Errorf("%q and %q have the same text", l, all[k])
		}
		seen[s] = i
	}
	if len(all) < 200 {
		t.Errorf("only %d label sets", len(all))
	}
}

// P5.2: what can be parsed is the text of the result, a label set; for the rest there are no labels.
func TestParsedTexts(t *testing.T) {
	parsed, failed := 0, 0
	parts := []string{"{", "}", "a", "B_", "=\"", "\"", ",", "\\", "n", "\xff"}
	for _, beginning := range []string{"", "{a=\"", "{a=\"x\",b=\""} {
		for _, end := range tuples(parts, 5) {
			s := beginning + strings.Join(end, "")
			l, e := Parse(s)
			if e != api.OK {
				failed++
				if len(l) != 0 {
					t.Errorf("%q: %q and error %d", s, l, e)
				}
				continue
			}
			parsed++
			if x := Format(l); x != s || Check(l) != api.OK {
				t.Errorf("%q: %q with the text %q", s, l, x)
			}
		}
	}
	if parsed < 500 || failed < 100000 {
		t.Errorf("only %d texts and %d others", parsed, failed)
	}
}

// P5.3: each label is in one of the projections, in its order; those of label sets are label sets.
func TestDivision(t *testing.T) {
	divided := 0
	for _, l := range slices.Concat(lists(), sets()) {
		for _, names := range names() {
			keep, drop := Keep(l, names), Drop(l, names)
			var merged []api.Label
			k, d := 0, 0
			for range l {
				if k < len(keep) && keep[k] == l[k+d] {
					merged = append(merged, keep[k])
					k++
				} else if d < len(drop) {
					merged = append(merged, drop[d])
					d++
				}
			}
			if !slices.Equal(merged, l) || len(keep)+len(drop) != len(l) {
				t.Errorf("%q, %q: %q and %q", l, names, keep, drop)
			}
			checkSides(t, names, keep, drop)
			if Check(l) == api.OK && (Check(keep) != api.OK || Check(drop) != api.OK) {
				t.Errorf("%q, %q: %q and %q are not both label sets", l, names, keep, drop)
			}
			if len(keep) > 0 && len(drop) > 0 {
				divided++
			}
		}
	}
	if divided < 20000 {
		t.Errorf("only %d lists were divided", divided)
	}
}

// checkSides tests that only what is kept has one of the names.
func checkSides(t *testing.T, names []string, keep, drop []api.Label) {
	t.Helper()
	for _, x := range keep {
		if !slices.Contains(names, x.Name) {
			t.Errorf("%q keep %q", names, x)
		}
	}
	for _, x := range drop {
		if slices.Contains(names, x.Name) {
			t.Errorf("%q drop %q", names, x)
		}
	}
}

// P5.4: after With, the label has the value, and all others have theirs; sets stay sets.
func TestValues(t *testing.T) {
	long := strings.Repeat("v", 200)
	stayed, full := 0, 0
	for _, l := range slices.Concat(lists(), sets()) {
		for _, name := range []string{"", "1", "A", "B", "_", "a", "aa", "b", "b9", "c", "n", "nA", "nH", "nP", "nQ", "z", "é", strings.Repeat("a", 60), strings.Repeat("a", 61)} {
			for _, value := range []string{"", "1", "\"\\\n", long, long + "v"} {
				with := With(l, name, value)
				checkValues(t, l, with, name, value)
				if Check(l) != api.OK {
					continue
				}
				isThere := Get(l, name) != ""
				fits := value == "" || wantCheck(list(name, value)) == api.OK && (len(l) < api.MaxLabels || isThere)
				if (Check(with) == api.OK) != fits {
					t.Errorf("%q with %q and %q: %q, error %d", l, name, value, with, Check(with))
				}
				if fits {
					stayed++
				} else if len(with) > api.MaxLabels {
					full++
				}
			}
		}
	}
	if stayed < 10000 || full < 30 {
		t.Errorf("only %d label sets stayed, and %d were full", stayed, full)
	}
}

// checkValues compares the values of labels before and after With.
func checkValues(t *testing.T, before, after []api.Label, name, value string) {
	t.Helper()
	if v := Get(after, name); v != value {
		t.Errorf("%q with %q and %q: %q has %q", before, name, value, after, v)
	}
	for _, x := range slices.Concat(before, after, list("absent", "")) {
		if v, was := Get(after, x.Name), Get(before, x.Name); x.Name != name && v != was {
			t.Errorf("%q with %q and %q: %q has %q for %q", before, name, value, after, v, x.Name)
		}
	}
	same := func(x api.Label) bool { return x.Name == name }
	if !slices.Equal(without(before, same), without(after, same)) {
		t.Errorf("%q with %q and %q: %q", before, name, value, after)
	}
}

// P5.5: exactly equal lists compare as equal; exchanged lists have the opposite order; three lists have one order.
func TestOrder(t *testing.T) {
	all := tuples(list("a", "1", "a", "2", "a", "10", "b", "1", "", "", "", "a", "a", "", "A", "é"), 2)
	all = append(all, many(15), many(16), many(17), list("a", "1", "a", "1", "a", "1"), list("a", "1", "b", "1", "", ""))
	ordered := 0
	for _, a := range all {
		for _, b := range all {
			c := Compare(a, b)
			if (c == 0) != slices.Equal(a, b) || Compare(b, a) != -c || c < -1 || c > 1 {
				t.Errorf("%q and %q: %d, exchanged %d", a, b, c, Compare(b, a))
			}
			if c > 0 {
				continue
			}
			for _, d := range all {
				if Compare(b, d) <= 0 {
					ordered++
					if Compare(a, d) > 0 {
						t.Errorf("%q, %q and %q are in a circle", a, b, d)
					}
				}
			}
		}
	}
	if ordered < 50000 {
		t.Errorf("only %d lists in order", ordered)
	}
}

// P5.5: sorted by Compare, a list comes before what begins with it.
func TestSorted(t *testing.T) {
	all := lists()
	slices.SortFunc(all, Compare)
	for i, a := range all {
		if i > 0 && slices.Compare(texts(all[i-1]), texts(a)) > 0 {
			t.Errorf("%q before %q", all[i-1], a)
		}
	}
	for _, a := range all {
		for n := range a {
			if Compare(a[:n], a) != -1 || Compare(a, a[:n]) != 1 {
				t.Errorf("%q and %q", a[:n], a)
			}
		}
	}
}

// P5.6: some hashes, written out.
func TestHashes(t *testing.T) {
	for s, want := range map[string]int{
		"": 2166136261, "a": 3826002220, "b": 3876335077, "foobar": 3214735720, "\x00": 84696351, "\xff": 2047574606, "\x80": 2232128415, "é": 513665217,
	} {
		if h := HashString(s); h != want {
			t.Errorf("%q: %d instead of %d", s, h, want)
		}
	}
	if h := Hash(list("__name__", "up", "job", "a\"b")); h != wantHash("{__name__=\"up\",job=\"a\\\"b\"}") {
		t.Error(h)
	}
	if h := Hash(nil); h != wantHash("{}") {
		t.Error(h)
	}
}

// P5.6: with one more byte, the hash follows from the one before.
func TestHashSteps(t *testing.T) {
	beginnings := []string{"", "a", "\x00", "\xff\x80", "foobar", notText, strings.Repeat("v", 1000), "{__name__=\"up\"}"}
	for _, s := range beginnings {
		for b := range 256 {
			h := HashString(s + string([]byte{byte(b)}))
			// With less than 2 to the power of 57, the product fits.
			want := (HashString(s) ^ b) * 16777619 % (1 << 32)
			if h != want || h < 0 || h >= 1<<32 {
				t.Errorf("%q and %d: %d instead of %d", s, b, h, want)
			}
		}
	}
}

// P5.6: the hash of a list is that of its text, for label sets and other lists.
func TestHashesOfLists(t *testing.T) {
	great := 0
	for _, l := range slices.Concat(lists(), sets()) {
		h := Hash(l)
		if h != HashString(Format(l)) || h != wantHash(wantText(l)) {
			t.Errorf("%q: %d", l, h)
		}
		if h >= 1<<31 {
			great++
		}
	}
	if great < 100 {
		t.Errorf("only %d great hashes", great)
	}
}
