package mem

import (
	"maps"
	"math/rand"
	"regexp"
	"slices"
	"strings"
	"testing"

	"souffleur/api"
)

// varName is a name that begins with a letter: the chapter's words, written as the package regexp has them.
var varName = regexp.MustCompile(`^[a-z][a-z0-9_]{0,7}$`)

func isNameByWords(s string) bool {
	return varName.MatchString(s)
}

// mayByWords sorts the names, and looks whether nothing came of it.
func mayByWords(l []api.Var) bool {
	var names []string
	for _, v := range l {
		if !isNameByWords(v.Name) || len(v.Value) > 32 {
			return false
		}
		names = append(names, v.Name)
	}
	sorted := slices.Clone(names)
	slices.Sort(sorted)
	return len(l) <= 16 && slices.Equal(names, slices.Compact(sorted))
}

// values has of each name the value of the first variable.
func values(l []api.Var) map[string]string {
	all := map[string]string{}
	for _, v := range slices.Backward(l) {
		all[v.Name] = v.Value
	}
	return all
}

// setByWords keeps the variables by their names, and sorts these.
func setByWords(l []api.Var, name, value string) ([]api.Var, api.Errno) {
	all := values(l)
	_, is := all[name]
	switch {
	case !mayByWords(l), !isNameByWords(name):
		return nil, api.ErrArg
	case len(value) >= 33:
		return nil, api.ErrLong
	case !is && len(all) == 16:
		return nil, api.ErrFull
	}
	all[name] = value
	var out []api.Var
	for _, name := range slices.Sorted(maps.Keys(all)) {
		out = append(out, api.Var{Name: name, Value: all[name]})
	}
	return out, api.OK
}

func dropByWords(l []api.Var, name string) []api.Var {
	var out []api.Var
	for _, v := range l {
		if v.Name == name {
			continue
		}
		out = append(out, v)
	}
	return out
}

// checkCalls holds each call against the chapter's words, and that l stays as it is.
func checkCalls(t testing.TB, l []api.Var, name, value string) {
	before := slices.Clone(l)
	if want := mayByWords(l); May(l) != want {
		t.Fatalf("May(%q) is %t", l, !want)
	}
	wantValue, wantIs := values(l)[name]
	if got, is := Get(l, name); got != wantValue || is != wantIs {
		t.Fatalf("Get(%q, %q) is %q, %t; not %q, %t", l, name, got, is, wantValue, wantIs)
	}
	if got, want := Drop(l, name), dropByWords(l, name); !slices.Equal(got, want) {
		t.Fatalf("Drop(%q, %q) is %q, not %q", l, name, got, want)
	}
	want, wantErr := setByWords(l, name, value)
	got, err := Set(l, name, value)
	if !slices.Equal(got, want) || err != wantErr {
		t.Fatalf("Set(%q, %q, %q) is %q, error %d; not %q, error %d", l, name, value, got, err, want, wantErr)
	}
	if !slices.Equal(l, before) {
		t.Fatalf("%q have become %q", before, l)
	}
	if err == api.OK {
		checkSet(t, l, got, name, value)
	}
}

// checkSet holds what is so of variables that were set, whatever stands where.
func checkSet(t testing.TB, l, set []api.Var, name, value string) {
	if got, is := Get(set, name); got != value || !is || !May(set) {
		t.Fatalf("of %q, Get of %q is %q, %t; May is %t", set, name, got, is, May(set))
	}
	if again, err := Set(set, name, value); !slices.Equal(again, set) || err != api.OK {
		t.Fatalf("set again, %q are %q, error %d", set, again, err)
	}
	if !slices.Equal(Drop(set, name), Drop(l, name)) {
		t.Fatalf("without %q, %q are %q, and %q are %q", name, l, Drop(l, name), set, Drop(set, name))
	}
}

// TestSmall goes through all lists of up to three variables of a few names and values, some of which may not be (P14.1).
func TestSmall(t *testing.T) {
	names := []string{"a", "a0", "a_", "aa", "b", "9", ""}
	var kinds []api.Var
	for _, name := range names {
		kinds = append(kinds, api.Var{Name: name}, api.Var{Name: name, Value: "x"})
	}
	kinds = append(kinds, api.Var{Name: "a", Value: long(32)}, api.Var{Name: "b", Value: long(33)})
	lists := [][]api.Var{nil}
	for range 4 {
		var longer [][]api.Var
		for _, l := range lists {
			for _, name := range append(names, "c", "A") {
				for _, value := range []string{"", "y", long(33)} {
					checkCalls(t, l, name, value)
				}
			}
			for _, v := range kinds {
				longer = append(longer, append(slices.Clone(l), v))
			}
		}
		lists = longer
	}
}

// TestOrder goes through pairs of short names: less is byte by byte (P14.1).
func TestOrder(t *testing.T) {
	var names []string
	for _, first := range []string{"a", "b", "z"} {
		names = append(names, first)
		for _, second := range []string{"0", "9", "_", "a", "z"} {
			names = append(names, first+second, first+second+"0", first+second+"_", first+second+"z", first+second+"zzzzzz")
		}
	}
	for _, a := range names {
		for _, b := range names {
			checkCalls(t, []api.Var{{Name: a, Value: "1"}, {Name: b, Value: "2"}}, "b_", "3")
			checkCalls(t, []api.Var{{Name: a, Value: "1"}}, b, "2")
		}
	}
}

// maker makes variables; one in odd is odd, if odd isn't 0.
type maker struct {
	*rand.Rand
	odd int
}

func (m maker) isOdd() bool {
	return m.odd > 0 && m.Intn(m.odd) == 0
}

func (m maker) text(bytes string, n int) string {
	var s strings.Builder
	for range n {
		s.WriteByte(bytes[m.Intn(len(bytes))])
	}
	return s.String()
}

func (m maker) name() string {
	if m.isOdd() {
		return m.text("ab0_A-\xff", m.Intn(11))
	}
	return m.text("abz", 1) + m.text("ab09_z", m.Intn(8))
}

func (m maker) value() string {
	if m.isOdd() {
		return m.text("x\x00\xff", 31+m.Intn(4))
	}
	return m.text("x0-\x00\xff", m.Intn(33))
}

// vars are about as many as may be, or fewer; but for odd ones, they rise.
func (m maker) vars() []api.Var {
	n := m.Intn(18)
	if m.Intn(3) == 0 {
		n = 14 + m.Intn(3)
	}
	var l []api.Var
	for range n {
		l = append(l, api.Var{Name: m.name(), Value: m.value()})
	}
	if m.isOdd() {
		return l
	}
	slices.SortFunc(l, func(a, b api.Var) int { return strings.Compare(a.Name, b.Name) })
	if m.isOdd() {
		return l
	}
	return slices.CompactFunc(l, func(a, b api.Var) bool { return a.Name == b.Name })
}

// nameFor is one of l, or another one.
func (m maker) nameFor(l []api.Var) string {
	if len(l) > 0 && m.Intn(2) == 0 {
		return l[m.Intn(len(l))].Name
	}
	return m.name()
}

// TestMade holds many made variables, of which some may not be, against the chapter's words (P14.1).
func TestMade(t *testing.T) {
	met := map[api.Errno]int{}
	for seed := range int64(60000) {
		m := maker{rand.New(rand.NewSource(seed)), []int{0, 3, 40}[seed%3]}
		l := m.vars()
		name, value := m.nameFor(l), m.value()
		checkCalls(t, l, name, value)
		_, err := Set(l, name, value)
		met[err]++
	}
	for _, err := range []api.Errno{api.OK, api.ErrArg, api.ErrLong, api.ErrFull} {
		if met[err] < 100 {
			t.Errorf("error %d is met but %d times", err, met[err])
		}
	}
}

// TestLongWays holds what comes of many calls, one behind the other, against a map (P14.1).
func TestLongWays(t *testing.T) {
	for seed := range int64(200) {
		m := maker{rand.New(rand.NewSource(seed)), 20}
		var l []api.Var
		kept := map[string]string{}
		for range 200 {
			name, value := m.nameFor(l), m.value()
			if m.Intn(4) == 0 {
				l = Drop(l, name)
				delete(kept, name)
			} else if set, err := Set(l, name, value); err == api.OK {
				l = set
				kept[name] = value
			}
			if !May(l) || len(l) != len(kept) || !maps.Equal(values(l), kept) {
				t.Fatalf("they are %q, and should be %q", l, kept)
			}
		}
	}
}

// FuzzSet holds all calls at any three variables, name and value, and those set behind each other.
func FuzzSet(f *testing.F) {
	f.Add("a", "1", "b", "2", "c", "3", "b", "x")
	f.Add("a", "1", "c", "2", "c", "3", "c", strings.Repeat("x", 33))
	f.Add("0", "", "", "\xff", "A", "", "0", "")
	f.Fuzz(func(t *testing.T, nameA, valueA, nameB, valueB, nameC, valueC, name, value string) {
		l := []api.Var{{Name: nameA, Value: valueA}, {Name: nameB, Value: valueB}, {Name: nameC, Value: valueC}}
		var set []api.Var
		for i, v := range l {
			checkCalls(t, l[:i], name, value)
			checkCalls(t, set, v.Name, v.Value)
			if next, err := Set(set, v.Name, v.Value); err == api.OK {
				set = next
			}
		}
		checkCalls(t, l, name, value)
		checkCalls(t, set, name, value)
		if short := Short(value); len(short) != min(len(value), 32) || !strings.HasPrefix(value, short) {
			t.Fatalf("Short(%q) is %q", value, short)
		}
	})
}
