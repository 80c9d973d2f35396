package mem

import (
	"slices"
	"strconv"
	"strings"
	"testing"

	"souffleur/api"
)

// vars are variables of the words of s, each a name, =, and its value.
func vars(s string) []api.Var {
	var l []api.Var
	for _, word := range strings.Fields(s) {
		name, value, _ := strings.Cut(word, "=")
		l = append(l, api.Var{Name: name, Value: value})
	}
	return l
}

// told is l as vars reads it.
func told(l []api.Var) string {
	var words []string
	for _, v := range l {
		words = append(words, v.Name+"="+v.Value)
	}
	return strings.Join(words, " ")
}

// many are n variables that may be, if there aren't too many: b10, b11 and so on.
func many(n int) []api.Var {
	var l []api.Var
	for i := range n {
		l = append(l, api.Var{Name: "b" + strconv.Itoa(10+i), Value: strconv.Itoa(i)})
	}
	return l
}

// long is a value of n bytes, of which each is by one greater than the one ahead.
func long(n int) string {
	var value []byte
	for i := range n {
		value = append(value, byte(i))
	}
	return string(value)
}

// TestMay holds which variables may be, at the edges (P14.1).
func TestMay(t *testing.T) {
	for _, l := range [][]api.Var{
		nil, {}, vars("a="), vars("a=x b=y"), vars("a=x b=x c=x"), vars("abcdefgh=x"), vars("a0=1 a_=2 aa=3"), vars("a= a0= a00= a1= a9= a_= aa= ab= az= b= z= z0= zzzzzzzz="),
		{{Name: "a", Value: long(31)}}, {{Name: "a", Value: long(32)}}, {{Name: "a", Value: "\x00\xff\n\" $"}, {Name: "b", Value: strings.Repeat("\u00e4", 16)}},
		many(1), many(15), many(16),
	} {
		if !May(l) {
			t.Errorf("%q may not be", l)
		}
	}
}

// mayNotBe are variables that may not be, each for another reason.
func mayNotBe() [][]api.Var {
	return [][]api.Var{
		{{}}, vars("=x"), vars("0=x"), vars("9=x"), vars("A=x"), vars("_=x"), vars("_a=x"), vars("aB=x"), vars("a-=x"), vars("0a=x"), vars("10=x"), vars("abcdefghi=x"), {{Name: "a b"}}, {{Name: " a"}}, {{Name: "a\n"}}, {{Name: "a\x00"}}, {{Name: "\u00e4"}}, {{Name: strings.Repeat("a", 100000)}},
		vars("a=x a=x"), vars("a=x a=y"), vars("b= a="), vars("a= b= b="), vars("a= c= b="), vars("b= a= c="), vars("aa= a="), vars("aa= a_="), vars("a_= a0="), vars("aa= a= ab="), vars("a= b= a="),
		vars("a= B="), vars("0= a="), vars("9= a="), vars("a= ="), vars("= a="), vars("a= b= 3="), vars("a= b-= c="),
		{{Name: "a", Value: long(33)}}, {{Name: "a", Value: long(32)}, {Name: "b", Value: long(33)}}, {{Name: "a", Value: long(100000)}, {Name: "b"}}, {{Name: "a", Value: strings.Repeat("\u00e4", 16) + "x"}}, {{Name: "a", Value: strings.Repeat("\u00e4", 17)}},
		many(17), many(18), many(90), slices.Repeat(vars("a=x"), 100000),
	}
}

// TestMayNot holds which ones may not be, and that they are refused by Set ahead of all else (P14.1, P0).
func TestMayNot(t *testing.T) {
	for _, l := range mayNotBe() {
		if May(l) {
			t.Errorf("%.200q may be", l)
		}
		for _, name := range []string{"a", "b", "b10", "z", "0", ""} {
			for _, value := range []string{"", "x", long(33)} {
				if got, err := Set(l, name, value); len(got) != 0 || err != api.ErrArg {
					t.Errorf("Set(%.200q, %q, %q) is %q, error %d", l, name, value, got, err)
				}
			}
		}
	}
}

// TestNameBytes holds each byte at each place of a name: those that may be names may be set (P14.1).
func TestNameBytes(t *testing.T) {
	for n := range 11 {
		for place := range n {
			for c := range 256 {
				for _, rest := range []string{"abcdefghij", "z123456789", "y_________", "0123456789"} {
					name := []byte(rest[:n])
					name[place] = byte(c)
					v := api.Var{Name: string(name), Value: "x"}
					want := isNameByWords(v.Name)
					if May([]api.Var{v}) != want {
						t.Fatalf("May of %q is %t", name, !want)
					}
					got, err := Set(nil, v.Name, v.Value)
					if want && (err != api.OK || !slices.Equal(got, []api.Var{v})) || !want && (err != api.ErrArg || len(got) != 0) {
						t.Fatalf("Set of %q is %q, error %d", name, got, err)
					}
				}
			}
		}
	}
}

// TestGet holds that the first one of the name is told, also among those that may not be (P14.1).
func TestGet(t *testing.T) {
	for _, c := range []struct {
		l           []api.Var
		name, value string
		is          bool
	}{
		{nil, "a", "", false}, {nil, "", "", false}, {[]api.Var{}, "a", "", false}, {vars("a=x"), "a", "x", true}, {vars("a="), "a", "", true}, {vars("a=x"), "b", "", false}, {vars("a=x"), "", "", false}, {vars("a=x"), "A", "", false},
		{vars("a=x b=y c=z"), "a", "x", true}, {vars("a=x b=y c=z"), "b", "y", true}, {vars("a=x b=y c=z"), "c", "z", true}, {vars("a=x b=y c=z"), "d", "", false}, {vars("a=x c=z"), "b", "", false},
		{vars("aa=x"), "a", "", false}, {vars("a=x"), "aa", "", false}, {vars("a=x a0=y a_=z aa=w"), "a_", "z", true},
		{vars("a=x a=y"), "a", "x", true}, {vars("b=1 a=x b=2 a=y"), "a", "x", true}, {vars("b=1 a= b=2 a=y"), "a", "", true}, {vars("c=1 b=2 a=3"), "a", "3", true}, {vars("c=1 b=2 a=3"), "c", "1", true},
		{vars("0=x"), "0", "x", true}, {vars("A=x -=y"), "-", "y", true}, {vars("=x"), "", "x", true}, {[]api.Var{{}}, "", "", true}, {vars("=x a=y"), "a", "y", true},
		{[]api.Var{{Name: "a", Value: long(33)}}, "a", long(33), true}, {[]api.Var{{Name: "\x00\xff", Value: "\xff"}}, "\x00\xff", "\xff", true},
		{many(16), "b25", "15", true}, {many(16), "b26", "", false}, {many(90), "b99", "89", true},
	} {
		if value, is := Get(c.l, c.name); value != c.value || is != c.is {
			t.Errorf("Get(%q, %q) is %q, %t; not %q", c.l, c.name, value, is, c.value)
		}
	}
}

// TestSet holds where a variable is set: in place of the one of that name, or among the others, rising (P14.1).
func TestSet(t *testing.T) {
	for _, c := range []struct{ l, name, value, want string }{
		{"", "a", "x", "a=x"}, {"", "abcdefgh", "", "abcdefgh="}, {"a=x", "a", "y", "a=y"}, {"a=x", "a", "x", "a=x"}, {"a=x", "a", "", "a="}, {"a=", "a", "x", "a=x"},
		{"b=x", "a", "y", "a=y b=x"}, {"b=x", "c", "y", "b=x c=y"}, {"a=1 c=3", "b", "2", "a=1 b=2 c=3"}, {"b=2 c=3", "a", "1", "a=1 b=2 c=3"}, {"a=1 b=2", "c", "3", "a=1 b=2 c=3"},
		{"a=1 b=2 c=3", "a", "x", "a=x b=2 c=3"}, {"a=1 b=2 c=3", "b", "x", "a=1 b=x c=3"}, {"a=1 b=2 c=3", "c", "x", "a=1 b=2 c=x"},
		{"a=1 aa=2", "a_", "3", "a=1 a_=3 aa=2"}, {"a=1 a_=2", "a0", "3", "a=1 a0=3 a_=2"}, {"a=1 b=2", "aa", "3", "a=1 aa=3 b=2"}, {"aa=1", "a", "2", "a=2 aa=1"}, {"a9=1", "a10", "2", "a10=2 a9=1"},
		{"b=2 d=4 f=6", "c", "3", "b=2 c=3 d=4 f=6"}, {"b=2 d=4 f=6", "e", "5", "b=2 d=4 e=5 f=6"},
	} {
		got, err := Set(vars(c.l), c.name, c.value)
		if told(got) != c.want || err != api.OK {
			t.Errorf("Set(%q, %q, %q) is %q, error %d; not %q", c.l, c.name, c.value, told(got), err, c.want)
		}
	}
}

// TestSetRefused holds the errors of Set, and their order (P14.1).
func TestSetRefused(t *testing.T) {
	for _, l := range [][]api.Var{nil, vars("a=x b=y"), many(15), many(16)} {
		for _, name := range []string{"", "0", "9", "10", "A", "_", "_a", "a-", "abcdefghi", "a b", "a\n", "\x00", "\u00e4", strings.Repeat("a", 100000)} {
			for _, value := range []string{"", "x", long(33)} {
				if got, err := Set(l, name, value); len(got) != 0 || err != api.ErrArg {
					t.Errorf("Set(%q, %.20q, %q) is %q, error %d", l, name, value, got, err)
				}
			}
		}
		for _, name := range []string{"a", "b10", "z"} {
			for _, n := range []int{33, 34, 100000} {
				if got, err := Set(l, name, long(n)); len(got) != 0 || err != api.ErrLong {
					t.Errorf("Set(%q, %q) of %d bytes is %q, error %d", l, name, n, got, err)
				}
			}
		}
		if got, err := Set(l, "a", strings.Repeat("\u00e4", 17)); len(got) != 0 || err != api.ErrLong {
			t.Errorf("Set(%q) of 34 bytes is %q, error %d", l, got, err)
		}
	}
	for _, name := range []string{"a", "b", "b1", "b100", "b20a", "b26", "z", "abcdefgh"} {
		for _, value := range []string{"", "x", long(32)} {
			if got, err := Set(many(16), name, value); len(got) != 0 || err != api.ErrFull {
				t.Errorf("Set(%q, %q) among 16 is %q, error %d", name, value, got, err)
			}
			if got, err := Set(many(15), name, value); len(got) != 16 || err != api.OK || !May(got) {
				t.Errorf("Set(%q, %q) among 15 is %q, error %d", name, value, got, err)
			}
		}
	}
}

// TestSetFull holds that of 16 variables each may have another value, of up to 32 bytes (P14.1).
func TestSetFull(t *testing.T) {
	for i := range 16 {
		for n := range 33 {
			want := many(16)
			want[i].Value = long(n)
			if got, err := Set(many(16), want[i].Name, long(n)); !slices.Equal(got, want) || err != api.OK {
				t.Errorf("Set(%q) of %d bytes is %q, error %d", want[i].Name, n, got, err)
			}
		}
	}
}

// TestDrop holds that all of the name are left out, and all others stay as they stand, also of those that may not be (P14.1).
func TestDrop(t *testing.T) {
	for _, c := range []struct{ l, name, want string }{
		{"", "a", ""}, {"", "", ""}, {"a=x", "a", ""}, {"a=x", "b", "a=x"}, {"a=x", "", "a=x"}, {"a=1 b=2 c=3", "a", "b=2 c=3"}, {"a=1 b=2 c=3", "b", "a=1 c=3"}, {"a=1 b=2 c=3", "c", "a=1 b=2"}, {"a=1 b=2 c=3", "d", "a=1 b=2 c=3"},
		{"a=1 aa=2 ab=3", "a", "aa=2 ab=3"}, {"a=1 aa=2", "aa", "a=1"}, {"a=1", "A", "a=1"},
		{"a=1 a=2", "a", ""}, {"a=1 b=2 a=3", "a", "b=2"}, {"b=1 a=2 a=3 b=4", "a", "b=1 b=4"}, {"c=1 b=2 a=3 c=1", "b", "c=1 a=3 c=1"}, {"0=1 A=2 =3", "0", "A=2 =3"}, {"0=1 =2 A=3", "", "0=1 A=3"},
	} {
		if got := Drop(vars(c.l), c.name); told(got) != c.want {
			t.Errorf("Drop(%q, %q) is %q, not %q", c.l, c.name, told(got), c.want)
		}
	}
	for _, l := range append(mayNotBe(), many(16)) {
		if got := Drop(l, "none"); !slices.Equal(got, l) {
			t.Errorf("Drop of none of %.200q is %.200q", l, got)
		}
	}
}

// TestShort holds the first bytes of texts of all lengths (P14.1).
func TestShort(t *testing.T) {
	for n := range 100 {
		s := long(n)
		want := s
		if n > 32 {
			want = s[:32]
		}
		if got := Short(s); got != want {
			t.Errorf("Short of %d bytes is %q", n, got)
		}
	}
	for s, want := range map[string]string{
		"a": "a", "\xff": "\xff", strings.Repeat("\u00e4", 16): strings.Repeat("\u00e4", 16), strings.Repeat("\u00e4", 17): strings.Repeat("\u00e4", 16), "x" + strings.Repeat("\u00e4", 16): "x" + strings.Repeat("\u00e4", 15) + "\xc3",
		strings.Repeat("\xff", 33): strings.Repeat("\xff", 32), strings.Repeat("\x00", 33): strings.Repeat("\x00", 32), strings.Repeat("y", 1000000): strings.Repeat("y", 32),
	} {
		if got := Short(s); got != want {
			t.Errorf("Short(%.100q) is %q", s, got)
		}
	}
}

// TestOwn holds that what is handed in stays as it was, also what is behind it, and that what is answered shares nothing with it (R4).
func TestOwn(t *testing.T) {
	for _, name := range []string{"a", "b", "c", "d", "e", "f", "g"} {
		room := vars("b=1 d=2 f=3 x=4 y=5")
		l, before := room[:3], slices.Clone(room)
		first, err := Set(l, name, "new")
		second, _ := Set(l, name, "new")
		dropped, again := Drop(l, name), Drop(l, name)
		May(l)
		Get(l, name)
		if !slices.Equal(room, before) || err != api.OK {
			t.Errorf("%q: they have become %q, error %d", name, room, err)
		}
		wantSet, wantDropped := told(second), told(again)
		for _, answer := range [][]api.Var{first, dropped} {
			for i := range answer[:cap(answer)] {
				answer[:cap(answer)][i] = api.Var{Name: "spoilt"}
			}
		}
		if !slices.Equal(room, before) || told(second) != wantSet || told(again) != wantDropped {
			t.Errorf("%q: they share something: %q, %q, %q", name, room, second, again)
		}
		for i := range room {
			room[i] = api.Var{}
		}
		if told(second) != wantSet || told(again) != wantDropped {
			t.Errorf("%q: the answers have become %q, %q", name, second, again)
		}
	}
}

// TestEmptyLists holds that an empty list is none, be it nil or not (P14.1, R4).
func TestEmptyLists(t *testing.T) {
	for _, l := range [][]api.Var{nil, {}, make([]api.Var, 0, 4)} {
		value, is := Get(l, "a")
		set, err := Set(l, "a", "x")
		if !May(l) || value != "" || is || told(set) != "a=x" || err != api.OK || len(Drop(l, "a")) != 0 {
			t.Errorf("of none: May %t, Get %q, %t, Set %q, error %d, Drop %q", May(l), value, is, set, err, Drop(l, "a"))
		}
	}
}
