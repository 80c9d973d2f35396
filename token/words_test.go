package token

import (
	"regexp"
	"slices"
	"strconv"
	"testing"
	"unicode/utf8"

	"souffleur/api"
	"souffleur/quote"
)

// byBytes is s with each byte as the rune of its number, so that the package regexp goes over it byte by byte.
func byBytes(s string) string {
	runes := []rune{}
	for i := range len(s) {
		runes = append(runes, rune(s[i]))
	}
	return string(runes)
}

// The chapter's words, written as the package regexp has them: what stands between tokens; what a token of each kind goes over, as far as it goes, whether it is such or not; and which of these are such.
var (
	wordGap  = regexp.MustCompile(`^(?:[\x09\x0a\x20]+|#[^\x0a]*)*`)
	wordRuns = [...]*regexp.Regexp{
		api.TokWord: regexp.MustCompile(`^[a-z][a-z0-9_]*`),
		api.TokNum:  regexp.MustCompile(`^[0-9]+`),
		api.TokText: regexp.MustCompile(`^"`),
		api.TokSign: regexp.MustCompile(`^(?:<=|>=|==|!=|&&|\|\||[{}()+*/%<>!]|-(?:[^a-z]|$))`),
		api.TokFlag: regexp.MustCompile(`^-[a-z]+`),
		api.TokVar:  regexp.MustCompile(`^\$[a-z0-9_]*`),
	}
	wordSuch = [...]*regexp.Regexp{
		api.TokWord: regexp.MustCompile(`^.{1,14}$`),
		api.TokNum:  regexp.MustCompile(`^(?:0|[1-9].*)$`),
		api.TokFlag: regexp.MustCompile(`^-(?:i|ex|gl|re)$`),
		api.TokVar:  regexp.MustCompile(`^\$(?:[a-z].{0,7}|[0-9])$`),
	}
)

// begins answers how far the pattern goes over s from its first byte on, and whether it does.
func begins(pattern *regexp.Regexp, s string) (string, bool) {
	runes := byBytes(s)
	found := pattern.FindStringIndex(runes)
	if found == nil {
		return "", false
	}
	return s[:utf8.RuneCountInString(runes[:found[1]])], true
}

// wantedToken answers what must be read at the beginning of s, where a token begins, and how many bytes it has; or an error, and how far behind the beginning its place is.
func wantedToken(s string) (api.Token, int, api.Errno) {
	for kind, run := range wordRuns {
		if run == nil {
			continue
		}
		read, ok := begins(run, s)
		switch {
		case !ok:
			continue
		case kind == api.TokText:
			parts, n, err := quote.Parse(s)
			return api.Token{Kind: kind, Parts: parts}, n, err
		case kind == api.TokSign && read[0] == '-':
			read = "-"
		case wordSuch[kind] != nil && !wordSuch[kind].MatchString(read):
			return api.Token{}, 0, api.ErrForm
		}
		return wantedOf(kind, read)
	}
	return api.Token{}, 0, api.ErrForm
}

// wantedOf is wantedToken for what was read of a kind, and is such.
func wantedOf(kind int, read string) (api.Token, int, api.Errno) {
	t := api.Token{Kind: kind, Word: read}
	switch kind {
	case api.TokFlag, api.TokVar:
		t.Word = read[1:]
	case api.TokNum:
		n, err := strconv.ParseInt(read, 10, 64)
		if err != nil {
			return api.Token{}, 0, api.ErrOver
		}
		t = api.Token{Kind: kind, N: n}
	}
	return t, len(read), api.OK
}

// wantedScan answers what Scan must answer of s.
func wantedScan(s string) ([]api.Token, int, api.Errno) {
	if len(s) > 2000 {
		return nil, 2000, api.ErrLong
	}
	tokens := []api.Token{}
	at := 0
	for {
		gap, _ := begins(wordGap, s[at:])
		at += len(gap)
		if at == len(s) {
			return tokens, 0, api.OK
		}
		t, n, err := wantedToken(s[at:])
		if err != api.OK {
			return nil, at + n, err
		}
		t.At = at
		tokens, at = append(tokens, t), at+n
	}
}

// alike tells whether a and b are the same tokens at the same places.
func alike(a, b []api.Token) bool {
	return slices.EqualFunc(a, b, func(x, y api.Token) bool {
		return x.Kind == y.Kind && x.Word == y.Word && x.N == y.N && x.At == y.At && slices.Equal(x.Parts, y.Parts)
	})
}

// checkScan holds one answer of Scan against the chapter's words.
func checkScan(t *testing.T, s string) {
	t.Helper()
	want, wantAt, wantErr := wantedScan(s)
	if got, at, err := Scan(s); !alike(got, want) || at != wantAt || err != wantErr {
		t.Fatalf("Scan(%q) is %v, %d, error %d; not %v, %d, error %d", s, got, at, err, want, wantAt, wantErr)
	}
}

// TestShortTexts goes through all short texts of the pieces that matter (P8.1).
func TestShortTexts(t *testing.T) {
	for most, pieces := range map[int][]string{
		3: {"a", "ex", "i", "0", "1", "_", "$", "-", `"`, " ", "\n", "#", "=", "<", ">", "!", "&", "|", "{", "A", "\\", "\x00"},
		4: {"a", "0", "7", "_", "$", "-", `"`, "#", "\n", "=", "<", "&"},
		5: {"a", "0", "$", "-", `"`, "#", "\n"},
		6: {"-", "i", "=", "!", " "},
	} {
		texts := []string{""}
		for range most {
			longer := []string{}
			for _, s := range texts {
				for _, piece := range pieces {
					longer = append(longer, s+piece)
				}
			}
			texts = longer
			for _, s := range texts {
				checkScan(t, s)
			}
		}
	}
}

// TestEachByte sets each byte, and each two, behind each beginning that goes on in its own way (P8.1).
func TestEachByte(t *testing.T) {
	for _, begin := range []string{"", "a", "abcdefghijklm", "abcdefghijklmn", "0", "1", "922337203685477580", `"`, `"a`, `"\`, `"\x`, `"${`, `"${a`, `"a"`, "-", "-e", "-ex", "-i", "-g", "-gl", "-r", "-re", "$", "$a", "$1", "$abcdefg", "$abcdefgh", "<", ">", "=", "!", "&", "|", "<=", "{", "+", "#", "#a", "#\n", " ", "\t", "\n", "a ", "a\n#b\n"} {
		for c := range 256 {
			s := begin + string([]byte{byte(c)})
			for _, behind := range []string{"", " ", "a", "0", "_", "=", `"`, "-", "\n", "x "} {
				checkScan(t, s+behind)
			}
		}
	}
	for c := range 256 {
		for d := range 256 {
			checkScan(t, string([]byte{byte(c), byte(d)}))
			checkScan(t, string([]byte{'a', ' ', byte(c), byte(d), ' ', 'b'}))
		}
	}
}
