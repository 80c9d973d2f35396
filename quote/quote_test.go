package quote

import (
	"regexp"
	"slices"
	"strconv"
	"strings"
	"testing"

	"souffleur/api"
)

func text(s string) api.Part {
	return api.Part{Text: s}
}

func variable(s string) api.Part {
	return api.Part{Name: s}
}

// byBytes is s with each byte as the rune of its number, so that the package regexp goes over it byte by byte.
func byBytes(s string) string {
	runes := []rune{}
	for i := range len(s) {
		runes = append(runes, rune(s[i]))
	}
	return string(runes)
}

// wholeText is a text of parts, beginText all that one may begin with: the chapter's words, written as the package regexp has them.
var (
	wholeName = regexp.MustCompile(`^(?:[a-z][a-z0-9_]{0,7}|[0-9])$`)
	wholeText = regexp.MustCompile(`^"(?:[ !#%-\[\]-~]|\\[nrt"\\$]|\\x[0-9a-f]{2}|\$\{(?:[a-z][a-z0-9_]{0,7}|[0-9])\})*"`)
	beginText = regexp.MustCompile(`^(?:"(?:[ !#%-\[\]-~]|\\[nrt"\\$]|\\x[0-9a-f]{2}|\$\{(?:[a-z][a-z0-9_]{0,7}|[0-9])\})*(?:|\\|\\x[0-9a-f]?|\$|\$\{(?:[a-z][a-z0-9_]{0,7}|[0-9])?)|)$`)
)

// wantedPlaces answers the number and the error that Parse must answer of s.
func wantedPlaces(s string) (int, api.Errno) {
	if found := wholeText.FindString(byBytes(s)); found != "" {
		return len(found), api.OK
	}
	place := 0
	for place < len(s) && beginText.MatchString(byBytes(s[:place+1])) {
		place++
	}
	return place, api.ErrForm
}

// longer answers all texts of up to most of the pieces.
func longer(pieces []string, most int) []string {
	all, last := []string{""}, []string{""}
	for range most {
		next := []string{}
		for _, s := range last {
			for _, piece := range pieces {
				next = append(next, s+piece)
			}
		}
		all, last = append(all, next...), next
	}
	return all
}

// TestName holds what is a name by hand (P2.1).
func TestName(t *testing.T) {
	for _, s := range []string{"a", "z", "ab", "a_", "a1", "a_1", "a__", "abcdefgh", "z9999999", "a_______", "0", "1", "9"} {
		if !Name(s) {
			t.Errorf("%q is no name", s)
		}
	}
	for _, s := range []string{"", "_", "_a", "A", "aB", "abcdefghi", "z99999999", "00", "10", "1a", "1_", "a b", " a", "a ", "a-", "a\n", "a.", "\x00", "a\x00", "\xe4", "a\xe4", "`", "{", "/", ":", "a{", "a`", "a/", "a:", "a^", strings.Repeat("a", 100000)} {
		if Name(s) {
			t.Errorf("%q is a name", s)
		}
	}
}

// TestNameBytes holds each byte at each place of a name against the chapter's words (P2.1).
func TestNameBytes(t *testing.T) {
	for n := range 11 {
		for place := range n {
			for c := range 256 {
				for _, rest := range []string{"abcdefghij", "0123456789", "__________"} {
					name := []byte(rest[:n])
					name[place] = byte(c)
					if got, want := Name(string(name)), wholeName.MatchString(byBytes(string(name))); got != want {
						t.Fatalf("Name(%q) is %t", name, got)
					}
				}
			}
		}
	}
}

// TestMay holds which parts may be (P2.1).
func TestMay(t *testing.T) {
	for _, l := range [][]api.Part{
		nil, {}, {text("a")}, {text("\x00\xff")}, {text(`${a}"`)}, {variable("a")}, {variable("0")}, {variable("abcdefgh")},
		{variable("a"), variable("a")}, {text("a"), variable("a")}, {variable("a"), text("a")},
		{text("a"), variable("b"), text("c")}, {variable("a"), text("b"), variable("c"), variable("1"), text("d")},
		{text(strings.Repeat("x", 100000))},
	} {
		if !May(l) {
			t.Errorf("%q may not be", l)
		}
	}
}

// mayNotBe are parts that may not be, each for another reason.
func mayNotBe() [][]api.Part {
	return [][]api.Part{
		{{}}, {text("a"), {}}, {{}, text("a")}, {variable("a"), {}}, {{}, variable("a")}, {text("a"), {}, text("b")},
		{{Name: "a", Text: "b"}}, {{Name: "A", Text: "b"}}, {variable("b"), {Name: "a", Text: "b"}},
		{variable("A")}, {variable("_")}, {variable("10")}, {variable("abcdefghi")}, {variable("a b")}, {variable("\x00")}, {variable("\xe4")},
		{text("a"), text("b")}, {variable("c"), text("a"), text("b")}, {text("a"), text("b"), variable("c")},
		{text("a"), variable("c"), text("a"), text("b")}, {text("a"), variable("a}")}, {text("a"), variable("")},
	}
}

// TestMayNot holds that parts that may not be are refused by May, Print, and Plain (P2.1).
func TestMayNot(t *testing.T) {
	for _, l := range mayNotBe() {
		if May(l) {
			t.Errorf("%q may be", l)
		}
		if s, err := Print(l); s != "" || err != api.ErrArg {
			t.Errorf("Print(%q) is %q, error %d", l, s, err)
		}
		if s, plain := Plain(l); s != "" || plain {
			t.Errorf("Plain(%q) is %q, %t", l, s, plain)
		}
	}
}

// TestPrint holds texts of parts by hand (P2.1).
func TestPrint(t *testing.T) {
	for _, c := range []struct {
		parts []api.Part
		want  string
	}{
		{nil, `""`}, {[]api.Part{}, `""`}, {[]api.Part{text("a")}, `"a"`}, {[]api.Part{variable("a")}, `"${a}"`},
		{[]api.Part{text("a"), variable("b"), text("\x00")}, `"a${b}\x00"`},
		{[]api.Part{variable("a"), variable("9"), variable("abcdefgh")}, `"${a}${9}${abcdefgh}"`},
		{[]api.Part{text("\n\r\t\"\\$")}, `"\n\r\t\"\\\$"`},
		{[]api.Part{text("\a\b\v\f\x1b\x7f\x80\xff\xe4")}, `"\x07\x08\x0b\x0c\x1b\x7f\x80\xff\xe4"`},
		{[]api.Part{text("\u00e4")}, `"\xc3\xa4"`},
		{[]api.Part{text("${a}")}, `"\${a}"`}, {[]api.Part{text(`\n`)}, `"\\n"`}, {[]api.Part{text("{a} '~ ")}, `"{a} '~ "`},
	} {
		if got, err := Print(c.parts); got != c.want || err != api.OK {
			t.Errorf("Print(%q) is %s, error %d; not %s", c.parts, got, err, c.want)
		}
	}
}

// TestPrintBytes holds how each single byte is printed (P2.1).
func TestPrintBytes(t *testing.T) {
	short := map[byte]string{10: `\n`, 13: `\r`, 9: `\t`, '"': `\"`, '\\': `\\`, '$': `\$`}
	for c := range 256 {
		want, is := short[byte(c)]
		switch hex := strconv.FormatInt(int64(c), 16); {
		case is:
		case c >= 32 && c <= 126:
			want = string([]byte{byte(c)})
		case c < 16:
			want = `\x0` + hex
		default:
			want = `\x` + hex
		}
		if got, err := Print([]api.Part{text(string([]byte{byte(c)}))}); got != `"`+want+`"` || err != api.OK {
			t.Errorf("the byte %d is printed as %s, error %d", c, got, err)
		}
	}
}

// TestParse holds what is read by hand, and how many bytes that has (P2.1).
func TestParse(t *testing.T) {
	for _, c := range []struct {
		s     string
		parts []api.Part
		n     int
	}{
		{`""`, nil, 2}, {`"a"`, []api.Part{text("a")}, 3}, {`"${a}"`, []api.Part{variable("a")}, 6},
		{`"a${b}\x00"`, []api.Part{text("a"), variable("b"), text("\x00")}, 11},
		{`"${a}${a}"`, []api.Part{variable("a"), variable("a")}, 10}, {`"${0}${abcdefgh}x"`, []api.Part{variable("0"), variable("abcdefgh"), text("x")}, 18},
		{`"\n\r\t\"\\\$"`, []api.Part{text("\n\r\t\"\\$")}, 14}, {`"\x61\x0a\x22\x24\xff"`, []api.Part{text("a\n\"$\xff")}, 22},
		{`"\x61b\x63"`, []api.Part{text("abc")}, 11}, {`"\${a}"`, []api.Part{text("${a}")}, 7}, {`"\x24{a}"`, []api.Part{text("${a}")}, 9},
		{`"{a}"`, []api.Part{text("{a}")}, 5}, {`"\xfff"`, []api.Part{text("\xfff")}, 7}, {`"\\x41"`, []api.Part{text(`\x41`)}, 7},
		{`""a"`, nil, 2}, {`"""`, nil, 2}, {"\"a\"\x00\n", []api.Part{text("a")}, 3}, {`"a"${`, []api.Part{text("a")}, 3}, {`"a" "b"`, []api.Part{text("a")}, 3},
	} {
		if got, n, err := Parse(c.s); !slices.Equal(got, c.parts) || n != c.n || err != api.OK {
			t.Errorf("Parse(%s) is %q, %d, error %d", c.s, got, n, err)
		}
	}
}

// TestParseRefused holds the places at which texts can't go on, by hand (P2.1).
func TestParseRefused(t *testing.T) {
	for s, place := range map[string]int{
		"": 0, "a": 0, " \"\"": 0, "'a'": 0, `\"`: 0, "\x00": 0, "\xff": 0,
		`"`: 1, `"a`: 2, `"a${b}`: 6, `"\"`: 3, `"\`: 2, `"\x`: 3, `"\x0`: 4, `"\x00`: 5, `"$`: 2, `"${`: 3, `"${a`: 4, `"${1`: 4, `"${abcdefgh`: 11,
		"\"\n\"": 1, "\"a\x00\"": 2, "\"\x7f\"": 1, "\"\x80\"": 1, "\"\xff\"": 1, "\"a\tb\"": 2, "\"\u00e4\"": 1,
		`"\q"`: 2, `"\N"`: 2, `"\a"`: 2, `"\'"`: 2, `"\{"`: 2, `"\0"`: 2, `"\u0041"`: 2, "\"\\\n\"": 2,
		`"\xg0"`: 3, `"\x0g"`: 4, `"\xA0"`: 3, `"\x0A"`: 4, `"\x"`: 3, `"\x1"`: 4, `"\X41"`: 2, "\"\\x4\x00\"": 4,
		`"$"`: 2, `"$a"`: 2, `"$$"`: 2, `"a$ "`: 3, `"${}"`: 3, `"${A}"`: 3, `"${_}"`: 3, `"${ a}"`: 3, `"${aB}"`: 4, `"${a }"`: 4, `"${a"`: 4, `"${-}"`: 3, `"${$}"`: 3,
		`"${12}"`: 4, `"${1a}"`: 4, `"${1_}"`: 4, `"${abcdefghi}"`: 11, `"${abcdefgh_`: 11, "\"${a\xff}\"": 4, `"${\x61}"`: 3, `"${a}$"`: 6,
	} {
		if got, n, err := Parse(s); len(got) != 0 || n != place || err != api.ErrForm {
			t.Errorf("Parse(%q) is %q, %d, error %d; not at %d", s, got, n, err, place)
		}
	}
}

// checkParse holds one answer of Parse against the chapter's words.
func checkParse(t *testing.T, s string) {
	want, wantErr := wantedPlaces(s)
	parts, n, err := Parse(s)
	if n != want || err != wantErr {
		t.Fatalf("Parse(%q) is %q, %d, error %d; not %d, error %d", s, parts, n, err, want, wantErr)
	}
	if !May(parts) || err != api.OK && len(parts) != 0 {
		t.Fatalf("Parse(%q) is %q, error %d", s, parts, err)
	}
}

// TestParsePlaces goes through all short texts of the bytes that matter, for how far they are read (P2.1).
func TestParsePlaces(t *testing.T) {
	pieces := []string{`"`, `\`, `$`, `{`, `}`, `x`, `a`, `1`, `G`, "\n"}
	for _, s := range longer(pieces, 4) {
		checkParse(t, s)
		checkParse(t, `"`+s)
	}
	for _, s := range longer([]string{`"`, `\x`, `${`, `}`, `a`, `1`, `_`, `n`, "abcdef0", `\\`}, 5) {
		checkParse(t, `"`+s)
	}
}

// TestParseEachByte sets each byte behind each beginning that waits for something else (P2.1).
func TestParseEachByte(t *testing.T) {
	for _, begin := range []string{``, `"`, `"a`, `"\`, `"\x`, `"\x0`, `"\x0f`, `"$`, `"${`, `"${a`, `"${1`, `"${abcdefg`, `"${abcdefgh`, `"${a}`, `""`} {
		for c := range 256 {
			s := begin + string([]byte{byte(c)})
			checkParse(t, s)
			checkParse(t, s+`"`)
			checkParse(t, s+`}"`)
		}
	}
}

// TestParseCut holds that a text that is cut off anywhere is refused at its end (P2.1).
func TestParseCut(t *testing.T) {
	const whole = `"a\n\x0f${b}${abcdefgh}\$${0}\\c\""`
	for n := range len(whole) {
		if got, place, err := Parse(whole[:n]); len(got) != 0 || place != n || err != api.ErrForm {
			t.Errorf("Parse(%q) is %q, %d, error %d", whole[:n], got, place, err)
		}
	}
	if _, n, err := Parse(whole); n != len(whole) || err != api.OK {
		t.Error("the whole of it:", n, err)
	}
}

// TestEachByteByHex holds that \x may write each byte (P2.1).
func TestEachByteByHex(t *testing.T) {
	for c := range 256 {
		hex := strconv.FormatInt(int64(c)+256, 16)[1:]
		want := []api.Part{text(string([]byte{byte(c)}))}
		if got, n, err := Parse(`"\x` + hex + `"`); !slices.Equal(got, want) || n != 6 || err != api.OK {
			t.Errorf("the byte %d is read as %q, %d, error %d", c, got, n, err)
		}
	}
}

// TestPlain holds which parts are plain, and their Text (P2.1).
func TestPlain(t *testing.T) {
	for _, c := range []struct {
		parts []api.Part
		want  string
		plain bool
	}{
		{nil, "", true}, {[]api.Part{}, "", true}, {[]api.Part{text("a")}, "a", true}, {[]api.Part{text("a\x00\n$\xff")}, "a\x00\n$\xff", true},
		{[]api.Part{variable("a")}, "", false}, {[]api.Part{text("a"), variable("b")}, "", false}, {[]api.Part{variable("b"), text("a")}, "", false},
		{[]api.Part{variable("a"), variable("b")}, "", false},
	} {
		if got, plain := Plain(c.parts); got != c.want || plain != c.plain {
			t.Errorf("Plain(%q) is %q, %t", c.parts, got, plain)
		}
	}
}

// checkPrinted holds that l is read as it was printed, also with something behind it.
func checkPrinted(t *testing.T, l []api.Part) {
	s, err := Print(l)
	if err != api.OK {
		t.Fatalf("Print(%q) is %q, error %d", l, s, err)
	}
	for _, behind := range []string{"", `"`, " a", "}", `\`, "\x00"} {
		got, n, err := Parse(s + behind)
		if !slices.Equal(got, l) || n != len(s) || err != api.OK {
			t.Fatalf("%q is printed as %s, and read as %q, %d, error %d", l, s, got, n, err)
		}
	}
}

// TestPrintedIsParsed goes through single bytes, pairs of bytes, and short lists of parts (P2.2).
func TestPrintedIsParsed(t *testing.T) {
	for c := range 256 {
		for d := range 256 {
			checkPrinted(t, []api.Part{text(string([]byte{byte(c), byte(d)}))})
		}
		checkPrinted(t, []api.Part{text(string([]byte{byte(c)}))})
		checkPrinted(t, []api.Part{variable("a"), text(string([]byte{byte(c)})), variable("1")})
	}
	parts := []api.Part{text("a"), text("$"), text("{b}"), text(`\`), text("\"\x00\xff\n"), text("x41"), variable("a"), variable("7"), variable("abc_1234")}
	lists := [][]api.Part{nil}
	for range 4 {
		next := [][]api.Part{nil}
		for _, l := range lists {
			for _, part := range parts {
				if grown := append(slices.Clone(l), part); May(grown) {
					next = append(next, grown)
				}
			}
		}
		lists = next
		for _, l := range lists {
			checkPrinted(t, l)
		}
	}
}

// TestArgumentsStay holds that what is handed in isn't changed, and what is answered is the caller's own (R4).
func TestArgumentsStay(t *testing.T) {
	l := []api.Part{text("a\n"), variable("b"), text("c")}
	before := slices.Clone(l)
	first, _ := Print(l)
	May(l)
	Plain(l)
	if !slices.Equal(l, before) {
		t.Errorf("the parts have become %q", l)
	}
	read, _, _ := Parse(first)
	read[0], read[1] = variable("z"), text("z")
	if again, _, err := Parse(first); !slices.Equal(again, before) || err != api.OK {
		t.Errorf("read again it is %q, error %d", again, err)
	}
	if again, err := Print(l); again != first || err != api.OK {
		t.Errorf("printed again it is %q, error %d", again, err)
	}
}

// TestLong holds that the calls end at long arguments (P0).
func TestLong(t *testing.T) {
	const n = 200000
	checkPrinted(t, []api.Part{text(strings.Repeat("a\n\x00$\xff", n))})
	checkPrinted(t, slices.Repeat([]api.Part{variable("abcdefgh"), text("x")}, n))
	for s, place := range map[string]int{`"` + strings.Repeat("a", n): n + 1, `"${` + strings.Repeat("a", n): 11, `"` + strings.Repeat("${a}", n) + "$": 4*n + 2} {
		if got, at, err := Parse(s); len(got) != 0 || at != place || err != api.ErrForm {
			t.Errorf("Parse(%.20q) is %d parts, %d, error %d", s, len(got), at, err)
		}
	}
}

// FuzzParse holds P2.1 and P2.2 at any text: it is read as far as the chapter's words say, and what is read is printed to what is read again.
func FuzzParse(f *testing.F) {
	for _, s := range []string{"", `""`, `"a${b}\x00"`, `"\x4`, `"${abcdefghi}"`, "\"\xff\"", `"\n\r\t\"\\\$"x`} {
		f.Add(s)
	}
	f.Fuzz(func(t *testing.T, s string) {
		checkParse(t, s)
		if parts, _, err := Parse(s); err == api.OK {
			checkPrinted(t, parts)
		}
	})
}

// FuzzPrint holds P2.1 and P2.2 at any parts: they are refused, or read as they were.
func FuzzPrint(f *testing.F) {
	f.Add("a", "", "", "b", "", "c")
	f.Add("", "a", "", "b", "x", "")
	f.Fuzz(func(t *testing.T, nameA, textA, nameB, textB, nameC, textC string) {
		l := []api.Part{{Name: nameA, Text: textA}, {Name: nameB, Text: textB}, {Name: nameC, Text: textC}}
		if May(l) {
			checkPrinted(t, l)
		} else if s, err := Print(l); s != "" || err != api.ErrArg {
			t.Errorf("Print(%q) is %q, error %d", l, s, err)
		}
	})
}
