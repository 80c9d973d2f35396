package row

import (
	"reflect"
	"testing"

	"souffleur/api"
	"souffleur/token"
)

func scanned(t *testing.T, s string) []api.Token {
	t.Helper()
	l, _, err := token.Scan(s)
	if err != api.OK {
		t.Fatalf("%q: error %d", s, err)
	}
	return l
}

// TestReader holds what is read one behind the other, and that nothing is read any more once it is refused.
func TestReader(t *testing.T) {
	s := `cap 7 at "a" $b { `
	r := Reader{Tokens: scanned(t, s)}
	if !r.IsNext(api.TokWord, "cap") || r.Take(api.TokWord, "at") || r.Take(api.TokSign, "cap") || !r.Take(api.TokWord, "cap") {
		t.Error("cap isn't read")
	}
	if n := r.NeedKind(api.TokNum).N; n != 7 {
		t.Errorf("7 is read as %d", n)
	}
	if name, text := r.NeedName(), r.NeedPlain(); name != "at" || text != "a" || r.Err != api.OK {
		t.Errorf("they are read as %q and %q, error %d", name, text, r.Err)
	}
	r.Need(api.TokVar, "b")
	if r.Err != api.OK || r.At != 5 || r.Place(s, r.At) != 16 || r.Place(s, 6) != len(s) {
		t.Errorf("it is at %d, error %d", r.At, r.Err)
	}
	r.Refuse(api.ErrDeep)
	r.Need(api.TokSign, "{")
	if r.Take(api.TokSign, "{") || r.IsNext(api.TokSign, "{") || r.NeedName() != "" || r.NeedPlain() != "" || !reflect.DeepEqual(r.Next(), api.Token{}) || !reflect.DeepEqual(r.NeedKind(api.TokSign), api.Token{}) || r.At != 5 || r.Err != api.ErrDeep {
		t.Errorf("it is read on to %d, error %d", r.At, r.Err)
	}
}

// TestRefused holds what isn't what is needed, and that nothing is behind the last token.
func TestRefused(t *testing.T) {
	for s, read := range map[string]func(*Reader){
		"abcdefghi": func(r *Reader) { r.NeedName() }, "$a": func(r *Reader) { r.NeedName() }, `"${a}"`: func(r *Reader) { r.NeedPlain() }, "a": func(r *Reader) { r.NeedPlain() },
		"1": func(r *Reader) { r.NeedKind(api.TokWord) }, "b": func(r *Reader) { r.Need(api.TokWord, "a") }, "": func(r *Reader) { r.Need(api.TokSign, "{") }, " ": func(r *Reader) { r.NeedName() },
	} {
		r := Reader{Tokens: scanned(t, s)}
		if read(&r); r.At != 0 || r.Err != api.ErrForm {
			t.Errorf("%q is read up to %d, error %d", s, r.At, r.Err)
		}
	}
}

// TestIsName holds that names of a digit are no words.
func TestIsName(t *testing.T) {
	for s, want := range map[string]bool{"a": true, "z_9": true, "abcdefgh": true, "abcdefghi": false, "0": false, "9": false, "": false, "A": false, "a-": false} {
		if IsName(s) != want {
			t.Errorf("IsName(%q) is %v", s, !want)
		}
	}
}

// TestAppend holds that what is put one behind the other is what is scanned.
func TestAppend(t *testing.T) {
	l := AppendFlag(AppendSign(AppendWords(nil, "a", "b"), "{"), "ex")
	l = AppendPlain(AppendPlain(AppendNumber(l, 12), ""), "$x")
	want := scanned(t, `a b { -ex 12 "" "\$x"`)
	for i := range want {
		want[i].At = 0
	}
	if !reflect.DeepEqual(l, want) || len(AppendWords(nil)) != 0 {
		t.Errorf("they are %v, not %v", l, want)
	}
}
