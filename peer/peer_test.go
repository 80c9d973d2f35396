package peer

import (
	"math"
	"reflect"
	"slices"
	"strconv"
	"strings"
	"testing"

	"souffleur/api"
)

func emit(text string, lo, hi, to int) api.Edge {
	return api.Edge{Kind: api.EdgeEmit, Text: text, Lo: lo, Hi: hi, To: to}
}

func line(text string, to int) api.Edge {
	return api.Edge{Kind: api.EdgeLine, Text: text, To: to}
}

func shut(lo, hi int) api.Edge {
	return api.Edge{Kind: api.EdgeShut, Lo: lo, Hi: hi}
}

func at(name string, edges ...api.Edge) api.Place {
	return api.Place{Name: name, Edges: edges}
}

// echoes is the place p, with its echo.
func echoes(p api.Place) api.Place {
	p.Echo = true
	return p
}

func peerOf(most int, places ...api.Place) api.Peer {
	return api.Peer{Cap: most, Places: places}
}

// bare is p with nil for each empty list, and with lists of its own.
func bare(p api.Peer) api.Peer {
	var places []api.Place
	for _, place := range p.Places {
		place.Edges = append([]api.Edge(nil), place.Edges...)
		places = append(places, place)
	}
	p.Places = places
	return p
}

// numbered are n places without edges, a0 and so on, behind those of l.
func numbered(n int, l ...api.Place) []api.Place {
	for i := range n {
		l = append(l, at("a"+strconv.Itoa(i)))
	}
	return l
}

// texts are peers by their texts.
func texts() map[string]api.Peer {
	return map[string]api.Peer{
		"cap 1 at a { }":                                                                                  peerOf(1, at("a")),
		"cap 16 at abcdefgh { } at a_1 { }":                                                               peerOf(16, at("abcdefgh"), at("a_1")),
		"cap 9 at a echo { } at b { }":                                                                    peerOf(9, echoes(at("a")), at("b")),
		"cap 9 at a { } at echo echo { }":                                                                 peerOf(9, at("a"), echoes(at("echo"))),
		`cap 1 at a { emit "x" after 0 0 goto a }`:                                                        peerOf(1, at("a", emit("x", 0, 0, 0))),
		`cap 8 at a { emit "hi" after 0 2 goto b } at b { shut after 1 ever }`:                            peerOf(8, at("a", emit("hi", 0, 2, 1)), at("b", shut(1, -1))),
		`cap 2 at a { emit "\"\x00" after 9 9 goto a emit "\$" after 9 ever goto a }`:                     peerOf(2, at("a", emit("\"\x00", 9, 9, 0), emit("$", 9, -1, 0))),
		`cap 16 at b { emit "0123456789abcdef" after 1 8 goto b }`:                                        peerOf(16, at("b", emit("0123456789abcdef", 1, 8, 0))),
		`cap 3 at a { line "" goto a line "*" goto b } at b echo { line "[a-c]?\\*" goto a }`:             peerOf(3, at("a", line("", 0), line("*", 1)), echoes(at("b", line("[a-c]?\\*", 0)))),
		"cap 3 at a { shut after 0 0 shut after 0 9 shut after 0 ever shut after 9 9 shut after 9 ever }": peerOf(3, at("a", shut(0, 0), shut(0, 9), shut(0, -1), shut(9, 9), shut(9, -1))),
		"cap 4 at cap { line \"goto\" goto goto } at at { line \"at\" goto cap } at goto { } at ever echo { shut after 1 ever } at shut { line \"\" goto ever }": peerOf(4,
			at("cap", line("goto", 2)), at("at", line("at", 0)), at("goto"), echoes(at("ever", shut(1, -1))), at("shut", line("", 3))),
		`cap 5 at emit { emit "emit" after 1 2 goto after } at after { emit "a" after 3 ever goto emit } at line { line "line" goto line }`: peerOf(5,
			at("emit", emit("emit", 1, 2, 1)), at("after", emit("a", 3, -1, 0)), at("line", line("line", 2))),
		"cap 7 at a { line \"" + strings.Repeat("a", 200) + "\" goto a }":                                                   peerOf(7, at("a", line(strings.Repeat("a", 200), 0))),
		"cap 6 at a {" + strings.Repeat(" shut after 1 2", 8) + " }":                                                        peerOf(6, at("a", slices.Repeat([]api.Edge{shut(1, 2)}, 8)...)),
		"cap 2 at z { line \"l\" goto a14 }" + manyPlaces(15):                                                               peerOf(2, numbered(15, at("z", line("l", 15)))...),
		"cap 2 at z {" + strings.Repeat(" line \"\" goto z", 8) + " } at y {" + strings.Repeat(" shut after 0 0", 8) + " }": peerOf(2, at("z", slices.Repeat([]api.Edge{line("", 0)}, 8)...), at("y", slices.Repeat([]api.Edge{shut(0, 0)}, 8)...)),
	}
}

// manyPlaces is the text of so many places without edges.
func manyPlaces(n int) string {
	s := ""
	for i := range n {
		s += " at a" + strconv.Itoa(i) + " { }"
	}
	return s
}

// checkRead holds that s is read as want.
func checkRead(t *testing.T, s string, want api.Peer) {
	t.Helper()
	p, n, err := Parse(s)
	if !reflect.DeepEqual(bare(p), bare(want)) || n != 0 || err != api.OK {
		t.Errorf("Parse(%.200q) is %v, %d, error %d; not %v", s, p, n, err, want)
	}
}

// checkRefused holds that the text around the ^ in marked is refused with the error want, where the ^ stands.
func checkRefused(t *testing.T, marked string, want api.Errno) {
	t.Helper()
	place := strings.Index(marked, "^")
	s := marked[:place] + marked[place+1:]
	if p, n, err := Parse(s); !reflect.DeepEqual(p, api.Peer{}) || n != place || err != want {
		t.Errorf("Parse(%.200q) is %v, %d, error %d; not %d, error %d", s, p, n, err, place, want)
	}
}

// TestTexts holds how peers are written, that they may be, that they are read, and which are the same (P13.1, P13.2).
func TestTexts(t *testing.T) {
	for s, want := range texts() {
		checkRead(t, s, want)
		if got, err := Print(want); got != s || err != api.OK || !May(want) {
			t.Errorf("Print is %q, error %d, not %q; May is %v", got, err, s, May(want))
		}
		p, _, _ := Parse(s)
		if got, err := Print(p); got != s || err != api.OK || !May(p) {
			t.Errorf("%q is printed as %q, error %d; May is %v", s, got, err, May(p))
		}
		for other, q := range texts() {
			if Same(p, q) != (s == other) {
				t.Errorf("Same of %q and %q is %v", s, other, s != other)
			}
		}
	}
}

// TestRead holds texts that aren't the printed ones (P13.1).
func TestRead(t *testing.T) {
	for s, want := range map[string]api.Peer{
		`cap 8 at a {emit "hi" after 0 2 goto b} at b {shut after 1 ever}`: peerOf(8, at("a", emit("hi", 0, 2, 1)), at("b", shut(1, -1))),
		"cap 1at a{}":                                peerOf(1, at("a")),
		"#at\n\tcap#\n 1 at a#{}\n{} # at b {}":      peerOf(1, at("a")),
		`cap 1 at a echo{emit"\x61"after 0 0goto a}`: peerOf(1, echoes(at("a", emit("a", 0, 0, 0)))),
		"cap 2 at a{}at b{}at c{line\"c\"goto b}":    peerOf(2, at("a"), at("b"), at("c", line("c", 1))),
		"cap 2 at a{shut after 0 1shut after 2ever}": peerOf(2, at("a", shut(0, 1), shut(2, -1))),
	} {
		checkRead(t, s, want)
	}
}

// cantGoOn are texts with a ^ at the first token with which they can't go on.
func cantGoOn() []string {
	return []string{
		// The beginning.
		"^", "^a", "^at a {}", "^1", "^caps 1 at a {}", "^{", "^$cap", "^\"cap\"", "^-i", "cap^", "cap ^", "cap ^a", "cap ^at a {}", "cap ^\"1\"", "cap ^- 1 at a {}", "cap ^-1", "cap ^$a", "cap ^ever", "cap ^(1)", "cap 1^", "cap 1 ^", "cap 1 ^1", "cap 1 ^a", "cap 1 ^{}", "cap 1 ^cap 1", "cap 1 ^at_ a {}", "cap 1 ^emit",
		// Places.
		"cap 1 at^", "cap 1 at ^", "cap 1 at ^{}", "cap 1 at ^1 {}", "cap 1 at ^$a {}", "cap 1 at ^\"a\" {}", "cap 1 at ^abcdefghi {}", "cap 1 at ^-i", "cap 1 at a^", "cap 1 at a ^", "cap 1 at a ^}", "cap 1 at a ^a {}", "cap 1 at a ^1", "cap 1 at a ^at b", "cap 1 at a ^(", "cap 1 at a echo^", "cap 1 at a echo ^", "cap 1 at a echo ^echo {}", "cap 1 at a echo ^}", "cap 1 at a ^echos {}", "cap 1 at echo ^}",
		"cap 1 at a {^", "cap 1 at a { ^", "cap 1 at a { ^{", "cap 1 at a { ^at", "cap 1 at a { ^a", "cap 1 at a { ^1", "cap 1 at a { ^\"a\"", "cap 1 at a { ^goto a }", "cap 1 at a { ^after 1 2 }", "cap 1 at a {} ^}", "cap 1 at a {} ^{}", "cap 1 at a {} ^a", "cap 1 at a {} ^1", "cap 1 at a {} ^shut after 1 2", "cap 1 at a {} ^cap 1 at a {}", "cap 1 at a {} ^echo", "cap 1 at a {} at^", "cap 1 at a {} at ^1",
		// Emit.
		"cap 1 at a {emit^", "cap 1 at a {emit ^", "cap 1 at a {emit ^a", "cap 1 at a {emit ^1", "cap 1 at a {emit ^$a", "cap 1 at a {emit ^}", "cap 1 at a {emit ^after", "cap 1 at a {emit ^\"${a}\" after 0 0 goto a}", "cap 1 at a {emit ^\"a${a}\" after 0 0 goto a}", "cap 1 at a {emit ^\"${0}b\" after 0 0 goto a}",
		"cap 1 at a {emit \"a\"^", "cap 1 at a {emit \"a\" ^", "cap 1 at a {emit \"a\" ^\"b\"", "cap 1 at a {emit \"a\" ^goto a}", "cap 1 at a {emit \"a\" ^1", "cap 1 at a {emit \"a\" ^}", "cap 1 at a {emit \"a\" ^after_", "cap 1 at a {emit \"a\" after^", "cap 1 at a {emit \"a\" after ^", "cap 1 at a {emit \"a\" after ^a", "cap 1 at a {emit \"a\" after ^ever", "cap 1 at a {emit \"a\" after ^- 1", "cap 1 at a {emit \"a\" after ^\"1\"", "cap 1 at a {emit \"a\" after 1^", "cap 1 at a {emit \"a\" after 1 ^", "cap 1 at a {emit \"a\" after 1 ^goto a}", "cap 1 at a {emit \"a\" after 1 ^never", "cap 1 at a {emit \"a\" after 1 ^-1", "cap 1 at a {emit \"a\" after 1 ^}",
		"cap 1 at a {emit \"a\" after 1 2^", "cap 1 at a {emit \"a\" after 1 ever^", "cap 1 at a {emit \"a\" after 1 2 ^}", "cap 1 at a {emit \"a\" after 1 2 ^3", "cap 1 at a {emit \"a\" after 1 2 ^ever", "cap 1 at a {emit \"a\" after 1 ever ^2", "cap 1 at a {emit \"a\" after 1 ever ^ever", "cap 1 at a {emit \"a\" after 1 2 ^a", "cap 1 at a {emit \"a\" after 1 2 goto^", "cap 1 at a {emit \"a\" after 1 2 goto ^", "cap 1 at a {emit \"a\" after 1 2 goto ^1", "cap 1 at a {emit \"a\" after 1 2 goto ^}", "cap 1 at a {emit \"a\" after 1 2 goto ^abcdefghi}", "cap 1 at a {emit \"a\" after 1 2 goto ^\"a\"", "cap 1 at a {emit \"a\" after 1 2 goto ^$a", "cap 1 at a {emit \"a\" after 1 2 goto a^", "cap 1 at a {emit \"a\" after 1 2 goto a ^a", "cap 1 at a {emit \"a\" after 1 2 goto a ^\"b\"", "cap 1 at a {emit \"a\" after 1 2 goto a ^goto a}", "cap 1 at a {emit \"a\" after 1 2 goto a} \n^}",
		// Line.
		"cap 1 at a {line^", "cap 1 at a {line ^", "cap 1 at a {line ^a", "cap 1 at a {line ^}", "cap 1 at a {line ^goto a}", "cap 1 at a {line ^\"${a}\" goto a}", "cap 1 at a {line ^\"*${a}*\" goto a}", "cap 1 at a {line \"a\"^", "cap 1 at a {line \"a\" ^}", "cap 1 at a {line \"a\" ^after 1 2", "cap 1 at a {line \"a\" ^1 2", "cap 1 at a {line \"a\" ^a", "cap 1 at a {line \"a\" goto^", "cap 1 at a {line \"a\" goto ^}", "cap 1 at a {line \"a\" goto ^0", "cap 1 at a {line \"a\" goto ^abcdefghi", "cap 1 at a {line \"a\" goto a^", "cap 1 at a {line \"a\" goto a ^after",
		// Shut.
		"cap 1 at a {shut^", "cap 1 at a {shut ^", "cap 1 at a {shut ^}", "cap 1 at a {shut ^\"a\" after 1 2}", "cap 1 at a {shut ^1 2}", "cap 1 at a {shut ^goto a}", "cap 1 at a {shut after^", "cap 1 at a {shut after ^ever}", "cap 1 at a {shut after ^}", "cap 1 at a {shut after 1^", "cap 1 at a {shut after 1 ^}", "cap 1 at a {shut after 1 ^a}", "cap 1 at a {shut after 1 2^", "cap 1 at a {shut after 1 2 ^3", "cap 1 at a {shut after 1 2 ^goto a}", "cap 1 at a {shut after 1 ever ^goto a}", "cap 1 at a {shut after 1 ever^",
	}
}

// TestCantGoOn holds the first token with which a text can't go on, whatever else is wrong in it (P13.1).
func TestCantGoOn(t *testing.T) {
	for _, marked := range cantGoOn() {
		checkRefused(t, marked, api.ErrForm)
		behind, found := strings.CutPrefix(marked, "cap 1 ")
		if !found || strings.HasPrefix(behind, "^") {
			continue
		}
		checkRefused(t, "cap 1 at b{} "+behind, api.ErrForm)
		checkRefused(t, "#\ncap 0 at a {emit \"ab\" after 10 0 goto d line \"[\" goto e shut after 99 1} at a {"+strings.Repeat("shut after 1 0 ", 9)+"}"+manyPlaces(16)+behind, api.ErrForm)
	}
}

// TestEnd holds that a text that ends too early is refused at its end, whatever blanks and remarks are there (P13.1).
func TestEnd(t *testing.T) {
	for s := range texts() {
		words := strings.Split(s, " ")
		for n := range words {
			short := strings.Join(words[:n], " ")
			if n > 0 && words[n-1] == "}" && words[n] == "at" || strings.Contains(s, `"\"`) {
				continue
			}
			checkRefused(t, short+"^", api.ErrForm)
			checkRefused(t, short+" \t#}\n^", api.ErrForm)
			checkRefused(t, "\n\n"+short+"# \"^", api.ErrForm)
		}
	}
}

// TestLongFirst holds how many bytes a text may have, ahead of all else (P13.1).
func TestLongFirst(t *testing.T) {
	for _, s := range []string{"cap 1 at a {}", "", "A", "\"", "cap 1 at a { line \"[\" goto b }", "99999999999999999999"} {
		for _, rest := range []string{" ", "#", "}", "\xff", "1"} {
			long := (s + strings.Repeat(rest, 1001))[:1001]
			checkRefused(t, long[:1000]+"^"+long[1000:], api.ErrLong)
			checkRefused(t, long[:1000]+"^"+strings.Repeat(rest, 2000), api.ErrLong)
			checkRefused(t, long[:1000]+"^"+strings.Repeat(rest, 100000), api.ErrLong)
		}
	}
	s := "cap 1 at a { }"
	checkRead(t, s+strings.Repeat(" ", 1000-len(s)), peerOf(1, at("a")))
	checkRead(t, s+strings.Repeat("#", 1000-len(s)), peerOf(1, at("a")))
	checkRefused(t, s+strings.Repeat(" ", 999-len(s))+"^}", api.ErrForm)
}

// TestScanFirst holds that what is no row of tokens is refused ahead of all else but too many bytes (P13.1).
func TestScanFirst(t *testing.T) {
	for _, ahead := range []string{"", "a ", "cap ", "cap 0 ", "cap 1 at a {} ", "cap 1 at a {} at a {} } ", "cap 17 at a {line \"[\" goto b} } ", "cap 1 at a {emit \"${a}\" "} {
		for wrong, err := range map[string]api.Errno{"^A": api.ErrForm, "^00": api.ErrForm, "\"a^\n": api.ErrForm, `"a\^q"`: api.ErrForm, "^9223372036854775808": api.ErrOver, "^99999999999999999999 A": api.ErrOver, "^$abcdefghi": api.ErrForm, "^abcdefghijklmno": api.ErrForm, "^-x": api.ErrForm, "^=": api.ErrForm, "^\xff": api.ErrForm} {
			checkRefused(t, ahead+wrong, err)
			checkRefused(t, ahead+wrong+" at a {", err)
		}
		checkRefused(t, ahead+`"a {}^`, api.ErrForm)
	}
}

// TestCap holds what is said of the number of cap (P13.1).
func TestCap(t *testing.T) {
	for n := range 30 {
		s := strconv.Itoa(n) + " at a { }"
		if n >= 1 && n <= 16 {
			checkRead(t, "cap "+s, peerOf(n, at("a")))
		} else {
			checkRefused(t, "cap ^"+s, api.ErrLong)
			checkRefused(t, "# a\n\tcap  ^"+s+" at a { shut after 99 98 }", api.ErrLong)
		}
	}
	for _, n := range []string{"100", "256", "4294967297", "4294967312", "9223372036854775807", "9223372036854775793"} {
		checkRefused(t, "cap ^"+n+" at a {}", api.ErrLong)
	}
}

// TestManyPlaces holds how many places there may be (P13.1).
func TestManyPlaces(t *testing.T) {
	checkRead(t, "cap 1"+manyPlaces(16), peerOf(1, numbered(16)...))
	for _, behind := range []string{" b {}", " a0 {}", " a16 { shut after 99 1 } at b { line \"[\" goto c }", " a0 {} at b {} at c {}", " b {line \"a\" goto b}"} {
		checkRefused(t, "cap 1"+manyPlaces(16)+" ^at"+behind, api.ErrFull)
	}
	// A place that is one too many is there for those ahead that name it.
	checkRefused(t, `cap 1 at a {line "" goto z}`+manyPlaces(15)+" ^at z {}", api.ErrFull)
	checkRefused(t, `cap 1 at a {line "" goto ^z}`+manyPlaces(15)+" at y {}", api.ErrName)
}

// TestNamesMet holds that no two names are alike (P13.1).
func TestNamesMet(t *testing.T) {
	checkRefused(t, "cap 1 at a {} at ^a {}", api.ErrMet)
	checkRefused(t, "cap 1 at a {} at b {} at ^a echo {} at b {}", api.ErrMet)
	checkRefused(t, "cap 1 at a {} at b {} at ^b {} at a {}", api.ErrMet)
	checkRefused(t, "cap 1 at a echo {} at ^a {shut after 99 1}", api.ErrMet)
	checkRefused(t, "cap 1 at echo {} at ^echo echo {}", api.ErrMet)
	checkRefused(t, "cap 1"+manyPlaces(15)+" at ^a14 {} at b {}", api.ErrMet)
	checkRefused(t, "cap 1"+manyPlaces(15)+" at ^a0 {} at b {}", api.ErrMet)
	checkRead(t, "cap 1 at a{} at aa{} at a_{} at a1{} at b{}", peerOf(1, at("a"), at("aa"), at("a_"), at("a1"), at("b")))
}

// TestManyEdges holds how many edges a place may have (P13.1).
func TestManyEdges(t *testing.T) {
	for _, edge := range []string{`emit "a" after 0 0 goto a`, `line "" goto a`, "shut after 1 2", "shut after 3 ever"} {
		eight := strings.Repeat(edge+" ", 8)
		for _, s := range []string{"cap 1 at a {" + eight, "cap 1 at b {" + eight + "} at a {" + eight, "cap 1 at a {} at b {" + strings.Repeat("shut after 0 0 ", 8)} {
			if _, n, err := Parse(s + "}"); n != 0 || err != api.OK {
				t.Errorf("Parse(%q) is refused at %d, error %d", s, n, err)
			}
			checkRefused(t, s+"^"+edge+"}", api.ErrFull)
			checkRefused(t, s+"^"+edge+" "+edge+"} at a {}", api.ErrFull)
			checkRefused(t, s+`^emit "" after 10 10 goto z} at a {}`, api.ErrFull)
			checkRefused(t, s+`^line "[" goto z}`, api.ErrFull)
			checkRefused(t, s+"^shut after 10 9}", api.ErrFull)
		}
	}
}

// TestEmitted holds how many bytes are written at once (P13.1).
func TestEmitted(t *testing.T) {
	for n := 1; n <= 16; n++ {
		head := "cap " + strconv.Itoa(n) + " at a {emit "
		for _, c := range []string{"a", `\x00`, `\n`, `\$`} {
			text := strings.NewReplacer(`\x00`, "\x00", `\n`, "\n", `\$`, "$").Replace(c)
			for m := range 20 {
				behind := `"` + strings.Repeat(c, m) + `" after 0 0 goto a}`
				if m >= 1 && m <= n {
					checkRead(t, head+behind, peerOf(n, at("a", emit(strings.Repeat(text, m), 0, 0, 0))))
				} else {
					checkRefused(t, head+"^"+behind, api.ErrArg)
				}
			}
		}
		checkRefused(t, head+"^\""+strings.Repeat("a", 800)+"\" after 10 9 goto b} at a {}", api.ErrArg)
	}
	// What stands for any byte in a line does not in what is written.
	checkRead(t, `cap 2 at a {emit "[\\" after 0 0 goto a}`, peerOf(2, at("a", emit("[\\", 0, 0, 0))))
}

// TestLines holds which lines are patterns (P13.1).
func TestLines(t *testing.T) {
	for _, s := range []string{"", "a", "*", "?", "[a]", "[a-z0]x*", "]", "-", "{}", "${a", strings.Repeat("?", 200)} {
		checkRead(t, `cap 1 at a {line "`+strings.ReplaceAll(s, "$", `\$`)+`" goto a}`, peerOf(1, at("a", line(s, 0))))
	}
	for _, s := range []string{"[", "[]", "[b-a]", "[a", "a[", "[-a]", `\\`, `a\\`, `[\\]`, strings.Repeat("a", 201), strings.Repeat("*", 800)} {
		checkRefused(t, `cap 16 at a {line ^"`+s+`" goto a}`, api.ErrArg)
		checkRefused(t, `cap 16 at a {line "" goto a line ^"`+s+`" goto b line "[" goto c} at a {}`, api.ErrArg)
	}
}

// TestDelays holds what is said of the numbers of ticks (P13.1).
func TestDelays(t *testing.T) {
	for _, head := range []string{`emit "a"`, "shut"} {
		tail := "}"
		of := func(lo, hi int) api.Edge { return shut(lo, hi) }
		if head != "shut" {
			tail = " goto a}"
			of = func(lo, hi int) api.Edge { return emit("a", lo, hi, 0) }
		}
		s := "cap 1 at a {" + head + " after "
		for lo := range 13 {
			first := strconv.Itoa(lo)
			for hi := range 13 {
				second := strconv.Itoa(hi)
				switch {
				case lo > 9:
					checkRefused(t, s+"^"+first+" "+second+tail, api.ErrLong)
				case hi > 9:
					checkRefused(t, s+first+" ^"+second+tail, api.ErrLong)
				case hi < lo:
					checkRefused(t, s+first+" ^"+second+tail, api.ErrArg)
				default:
					checkRead(t, s+first+" "+second+tail, peerOf(1, at("a", of(lo, hi))))
				}
			}
			if lo > 9 {
				checkRefused(t, s+"^"+first+" ever"+tail, api.ErrLong)
			} else {
				checkRead(t, s+first+" ever"+tail, peerOf(1, at("a", of(lo, -1))))
			}
		}
		for _, n := range []string{"100", "256", "4294967296", "4294967301", "9223372036854775807"} {
			checkRefused(t, s+"^"+n+" ever"+tail, api.ErrLong)
			checkRefused(t, s+"^"+n+" "+n+tail, api.ErrLong)
			checkRefused(t, s+"0 ^"+n+tail, api.ErrLong)
			checkRefused(t, s+"9 ^"+n+tail, api.ErrLong)
		}
	}
}

// TestGoto holds where edges lead (P13.1).
func TestGoto(t *testing.T) {
	for _, edge := range []string{`emit "a" after 0 ever goto `, `line "a" goto `} {
		checkRefused(t, "cap 1 at a {"+edge+"^b}", api.ErrName)
		checkRefused(t, "cap 1 at a {"+edge+"^aa}", api.ErrName)
		checkRefused(t, "cap 1 at a {"+edge+"b "+edge+"^c} at b {"+edge+"d}", api.ErrName)
		checkRefused(t, "cap 1 at a {"+edge+"^goto}", api.ErrName)
		checkRefused(t, "cap 1 at a {"+edge+"^at} at b {}", api.ErrName)
		checkRefused(t, "cap 1 at a {"+edge+"^d} at b {} at b {}", api.ErrName)
		checkRefused(t, "cap 1 at a {"+edge+"b} at b {} at ^b {}", api.ErrMet)
	}
	s := "cap 1"
	var places []api.Place
	for i := range 16 {
		s += ` at a` + strconv.Itoa(i) + ` { line "" goto a` + strconv.Itoa(15-i) + " }"
		places = append(places, at("a"+strconv.Itoa(i), line("", 15-i)))
	}
	checkRead(t, s, peerOf(1, places...))
}

// TestFirst holds that of what is wrong the first counts, by the tokens in their order (P13.1).
func TestFirst(t *testing.T) {
	pieces := []struct {
		marked string
		err    api.Errno
	}{
		{"cap ^0", api.ErrLong}, {` at a {emit ^"" `, api.ErrArg}, {"after ^10 ", api.ErrLong}, {"^10 goto ", api.ErrLong}, {"^b line ", api.ErrName}, {`^"[" goto `, api.ErrArg}, {"^c shut after 5 ", api.ErrName}, {"^4}", api.ErrArg}, {" at ^a {", api.ErrMet}, {strings.Repeat("shut after 1 1 ", 8) + "^shut after ", api.ErrFull}, {"^77 ever}" + manyPlaces(14), api.ErrLong}, {" ^at a {}", api.ErrFull},
	}
	right := []string{"cap 1", ` at a {emit "x" `, "after 1 ", "9 goto ", "a line ", `"*" goto `, "a shut after 5 ", "6}", " at d {", strings.Repeat("shut after 1 1 ", 7) + "shut after ", "7 ever}" + manyPlaces(14), ""}
	for i := range pieces {
		ahead := strings.Join(right[:i], "")
		behind, rest := "", strings.Join(right[i+1:], "")
		for _, piece := range pieces[i+1:] {
			behind += strings.Replace(piece.marked, "^", "", 1)
		}
		if i == 0 {
			behind += "# "
		}
		checkRefused(t, ahead+pieces[i].marked+behind, pieces[i].err)
		checkRefused(t, ahead+pieces[i].marked+rest, pieces[i].err)
	}
	checkRead(t, strings.Join(right, ""), peerOf(1, numbered(14, at("a", emit("x", 1, 9, 0), line("*", 0), shut(5, 6)), at("d", append(slices.Repeat([]api.Edge{shut(1, 1)}, 7), shut(7, -1))...))...))
}

// checkMayNot holds that p may not be.
func checkMayNot(t *testing.T, p api.Peer) {
	t.Helper()
	if s, err := Print(p); May(p) || s != "" || err != api.ErrArg {
		t.Errorf("of %.200v May is %v, Print %.40q, error %d", p, May(p), s, err)
	}
}

// wrongEdges are edges that may not be in a peer of Cap 3 with two places.
func wrongEdges() []api.Edge {
	all := []api.Edge{{}, {Kind: -1}, {Kind: 4}, {Kind: math.MaxInt}, {Kind: math.MinInt}, {Text: "a"}, {Kind: 4, Text: "a"}, {Kind: api.EdgeEmit}, {Hi: 1}}
	for _, to := range []int{-1, -2, 2, 3, math.MaxInt, math.MinInt} {
		all = append(all, emit("a", 0, 0, to), line("a", to))
	}
	for _, to := range []int{-1, 1, 2, math.MaxInt} {
		e := shut(0, 0)
		e.To = to
		all = append(all, e)
	}
	for _, d := range []struct{ lo, hi int }{{-1, 0}, {-1, -1}, {0, -2}, {0, 10}, {1, 0}, {9, 8}, {9, 10}, {10, 10}, {10, -1}, {10, 9}, {math.MaxInt, math.MaxInt}, {math.MinInt, 0}, {0, math.MinInt}, {0, math.MaxInt}, {math.MaxInt, -1}} {
		all = append(all, emit("a", d.lo, d.hi, 0), shut(d.lo, d.hi))
	}
	for _, d := range []struct{ lo, hi int }{{1, 0}, {0, 1}, {1, 1}, {0, -1}, {-1, 0}, {-1, -1}, {3, 9}} {
		e := line("a", 1)
		e.Lo, e.Hi = d.lo, d.hi
		all = append(all, e)
	}
	for _, s := range []string{"", "abcd", "abcde", strings.Repeat("a", 100000)} {
		all = append(all, emit(s, 0, 0, 0))
	}
	for _, s := range []string{"[", "[]", "[b-a]", "\\", strings.Repeat("a", 201), strings.Repeat("[", 100000)} {
		all = append(all, line(s, 0))
	}
	e := shut(0, 0)
	e.Text = "a"
	return append(all, e)
}

// TestMayNot holds what may not be (P13.1, P0).
func TestMayNot(t *testing.T) {
	for _, most := range []int{0, -1, 17, 18, 1000, math.MaxInt, math.MinInt} {
		checkMayNot(t, peerOf(most, at("a")))
		checkMayNot(t, peerOf(most, at("a", emit("a", 0, 0, 0))))
	}
	checkMayNot(t, api.Peer{})
	checkMayNot(t, peerOf(1))
	checkMayNot(t, api.Peer{Cap: 1, Places: []api.Place{}})
	for _, name := range []string{"", "0", "1", "9", "A", "_a", "a b", "a-", "abcdefghi", "$a", "a\n", "\xff", "}", strings.Repeat("a", 100000)} {
		checkMayNot(t, peerOf(1, at(name)))
		checkMayNot(t, peerOf(1, at("a"), at(name), at("b")))
	}
	checkMayNot(t, peerOf(1, numbered(17)...))
	checkMayNot(t, peerOf(1, numbered(100000)...))
	if !May(peerOf(1, numbered(16)...)) {
		t.Error("16 places may not be")
	}
	for i := range 16 {
		for j := range i {
			l := numbered(16)
			l[i].Name = l[j].Name
			checkMayNot(t, peerOf(1, l...))
		}
	}
	for _, e := range wrongEdges() {
		for _, l := range [][]api.Edge{{e}, {shut(0, 0), e}, {e, shut(0, 0)}, {line("", 1), e, line("", 1)}} {
			checkMayNot(t, peerOf(3, at("a", l...), at("b")))
			checkMayNot(t, peerOf(3, at("a"), echoes(at("b", l...))))
		}
	}
	for n := 9; n < 100000; n *= 7 {
		checkMayNot(t, peerOf(3, at("a"), at("b", slices.Repeat([]api.Edge{shut(0, 0)}, n)...)))
	}
}

// TestMay holds what may be, at its edges (P13.1).
func TestMay(t *testing.T) {
	for _, p := range []api.Peer{
		peerOf(3, at("a", emit("abc", 0, 0, 0), emit("a", 9, 9, 1), emit("\x00", 0, 9, 1), emit("[", 9, -1, 0), emit("b", 0, -1, 0)), at("b")),
		peerOf(16, at("a", emit("0123456789abcdef", 3, 4, 0), line("", 0), line(strings.Repeat("*", 200), 0), shut(0, 0), shut(9, 9), shut(9, -1), shut(0, -1), shut(0, 9))),
		peerOf(1, at("at"), at("cap"), at("echo"), at("goto"), at("ever")),
	} {
		if s, err := Print(p); !May(p) || err != api.OK || s == "" {
			t.Errorf("%v may not be: Print is %q, error %d", p, s, err)
		}
	}
}

// TestPrintLong holds how many bytes may be printed (P13.1).
func TestPrintLong(t *testing.T) {
	for n := 950; n <= 1060; n++ {
		p := peerOf(1, at("a"))
		for i := range 5 {
			p.Places[0].Edges = append(p.Places[0].Edges, line(strings.Repeat("a", max(0, min(200, n-len(`cap 1 at a { }`)-5*len(` line "" goto a`)-200*i))), 0))
		}
		s, err := Print(p)
		if n <= 1000 && (len(s) != n || err != api.OK) || n > 1000 && (s != "" || err != api.ErrLong) || !May(p) {
			t.Errorf("of %d bytes Print has %d, error %d", n, len(s), err)
		}
		if n <= 1000 {
			checkRead(t, s, p)
		}
	}
	longest := peerOf(16)
	for i := range 16 {
		longest.Places = append(longest.Places, at("abcdefg"+string(rune('a'+i)), slices.Repeat([]api.Edge{line(strings.Repeat("\x00", 200), 0)}, 8)...))
	}
	if s, err := Print(longest); s != "" || err != api.ErrLong || !May(longest) {
		t.Errorf("the longest is %.40q, error %d", s, err)
	}
	// What may not be comes ahead of what is too long.
	longest.Places[15].Edges[7].To = 16
	checkMayNot(t, longest)
}

// TestSame holds that all counts, also of what may not be (P13.1).
func TestSame(t *testing.T) {
	all := []api.Peer{{}, peerOf(-1), peerOf(1), peerOf(math.MaxInt), peerOf(1, at("")), peerOf(1, at("A")), peerOf(1, echoes(at("")))}
	for _, base := range []api.Peer{peerOf(1, at("a", api.Edge{}), at("b")), peerOf(1, at("a"), at("b", emit("x", 1, 2, 1)))} {
		all = append(all, base)
		for i := range base.Places {
			for _, l := range [][]api.Edge{{{Kind: 1}}, {{Kind: 9}}, {{Text: "a"}}, {{Lo: 1}}, {{Hi: 1}}, {{To: 1}}, {{}, {}}, {{}, {Kind: 1}}, {{Kind: 1}, {}}, {emit("x", 1, 2, 2)}, {emit("y", 1, 2, 1)}, {emit("x", 0, 2, 1)}, {emit("x", 1, 3, 1)}, {emit("x", 1, 2, 1), shut(0, 0)}} {
				p := bare(base)
				p.Places[i].Edges = l
				all = append(all, p)
			}
			p := bare(base)
			p.Places[i].Name += "c"
			all = append(all, p)
			p = bare(base)
			p.Places[i].Echo = true
			all = append(all, p)
		}
		p := bare(base)
		p.Cap = 2
		all = append(all, p)
		p = bare(base)
		slices.Reverse(p.Places)
		all = append(all, p)
		p = bare(base)
		p.Places = append(p.Places, at("c"))
		all = append(all, p)
		p = bare(base)
		p.Places = p.Places[:1]
		all = append(all, p)
	}
	for i, a := range all {
		for j, b := range all {
			if want := reflect.DeepEqual(bare(a), bare(b)); Same(a, b) != want || i == j && !want {
				t.Fatalf("Same(%v, %v) is not %v", a, b, want)
			}
		}
	}
}

// filled is p with an empty list for each nil.
func filled(p api.Peer) api.Peer {
	p = bare(p)
	p.Places = append([]api.Place{}, p.Places...)
	for i := range p.Places {
		p.Places[i].Edges = append([]api.Edge{}, p.Places[i].Edges...)
	}
	return p
}

// TestEmptyLists holds that an empty list is none, be it nil or not (P13.1, R4).
func TestEmptyLists(t *testing.T) {
	for s, p := range texts() {
		full := filled(p)
		if got, err := Print(full); got != s || err != api.OK || !May(full) || !Same(p, full) || !Same(full, p) {
			t.Errorf("with empty lists %q is %q, error %d", s, got, err)
		}
	}
	if !Same(api.Peer{}, filled(api.Peer{})) {
		t.Error("no places aren't no places")
	}
}

// TestOwn holds that what is handed in stays as it was, and that what is answered shares nothing (R4).
func TestOwn(t *testing.T) {
	for s, p := range texts() {
		before := bare(p)
		May(before)
		Print(before)
		Same(before, before)
		if !reflect.DeepEqual(before, bare(p)) {
			t.Errorf("%q is changed", s)
		}
		a, _, _ := Parse(s)
		b, _, _ := Parse(s)
		for i := range a.Places {
			for j := range a.Places[i].Edges {
				a.Places[i].Edges[j] = api.Edge{}
			}
			a.Places[i].Edges = append(a.Places[i].Edges, api.Edge{Kind: 9})
			a.Places[i].Name = "z"
		}
		if !Same(b, p) {
			t.Errorf("%q is shared", s)
		}
	}
	p, _, _ := Parse("cap 1 at a {shut after 0 0} at b {shut after 0 0}")
	p.Places[0].Edges = append(p.Places[0].Edges, shut(1, 1))
	p.Places = append(p.Places, at("c"))
	if got, _ := Print(p); got != "cap 1 at a { shut after 0 0 shut after 1 1 } at b { shut after 0 0 } at c { }" {
		t.Errorf("it is %q", got)
	}
}
