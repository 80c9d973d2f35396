package num

import (
	"math"
	"math/big"
	"strings"
	"testing"

	"souffleur/api"
)

// edges are the numbers at which something turns: signs, the ends of 64 bits, and the roots of those.
func edges() []int64 {
	middles := []int64{0, 1 << 31, -1 << 31, 1 << 32, -1 << 32, 3037000499, -3037000499, 1 << 62, -1 << 62, math.MaxInt64 / 2, math.MaxInt64 / 3, math.MinInt64 / 3}
	list := []int64{math.MinInt64, math.MinInt64 + 1, math.MinInt64 + 2, math.MaxInt64, math.MaxInt64 - 1, math.MaxInt64 - 2}
	for _, m := range middles {
		for d := int64(-12); d <= 12; d++ {
			list = append(list, m+d)
		}
	}
	return list
}

// fit answers what a call must answer of a result that is z.
func fit(z *big.Int) (int64, api.Errno) {
	if !z.IsInt64() {
		return 0, api.ErrOver
	}
	return z.Int64(), api.OK
}

// floor answers a divided by b, brought down.
func floor(a, b *big.Int) *big.Int {
	q, r := new(big.Int).QuoRem(a, b, new(big.Int))
	if r.Sign()*b.Sign() < 0 {
		q.Sub(q, big.NewInt(1))
	}
	return q
}

// wanted answers what the call named name must answer of a and b.
func wanted(name string, a, b int64) (int64, api.Errno) {
	x, y := big.NewInt(a), big.NewInt(b)
	switch name {
	case "Add":
		return fit(x.Add(x, y))
	case "Sub":
		return fit(x.Sub(x, y))
	case "Mul":
		return fit(x.Mul(x, y))
	}
	if b == 0 {
		return 0, api.ErrZero
	}
	q := floor(x, y)
	if name == "Div" {
		return fit(q)
	}
	return fit(x.Sub(x, q.Mul(q, y)))
}

// TestReckoning holds each call of two numbers against numbers without bounds, at all pairs of edges (P1.1, P0).
func TestReckoning(t *testing.T) {
	calls := map[string]func(a, b int64) (int64, api.Errno){"Add": Add, "Sub": Sub, "Mul": Mul, "Div": Div, "Mod": Mod}
	for name, call := range calls {
		for _, a := range edges() {
			for _, b := range edges() {
				want, wantErr := wanted(name, a, b)
				if got, err := call(a, b); got != want || err != wantErr {
					t.Fatalf("%s(%d, %d) is %d, error %d; not %d, error %d", name, a, b, got, err, want, wantErr)
				}
			}
		}
	}
}

// TestDivisionPlain tells by hand what the other test reckons (P1.1).
func TestDivisionPlain(t *testing.T) {
	for _, c := range []struct{ a, b, quotient, rest int64 }{
		{7, 2, 3, 1}, {-7, 2, -4, 1}, {7, -2, -4, -1}, {-7, -2, 3, -1},
		{6, 3, 2, 0}, {-6, 3, -2, 0}, {6, -3, -2, 0}, {-6, -3, 2, 0},
		{1, 2, 0, 1}, {-1, 2, -1, 1}, {1, -2, -1, -1}, {-1, -2, 0, -1}, {0, -5, 0, 0},
		{math.MinInt64, math.MaxInt64, -2, math.MaxInt64 - 1}, {math.MaxInt64, math.MinInt64, -1, -1},
		{math.MinInt64, 1, math.MinInt64, 0}, {math.MinInt64, 2, -1 << 62, 0},
	} {
		if got, err := Div(c.a, c.b); got != c.quotient || err != api.OK {
			t.Errorf("Div(%d, %d) is %d, error %d", c.a, c.b, got, err)
		}
		if got, err := Mod(c.a, c.b); got != c.rest || err != api.OK {
			t.Errorf("Mod(%d, %d) is %d, error %d", c.a, c.b, got, err)
		}
	}
}

// TestDivisionRefused holds the errors of the divisions, and the rest that is there where the quotient isn't (P1.1).
func TestDivisionRefused(t *testing.T) {
	if n, err := Div(math.MinInt64, -1); n != 0 || err != api.ErrOver {
		t.Error("the least number by -1:", n, err)
	}
	if n, err := Mod(math.MinInt64, -1); n != 0 || err != api.OK {
		t.Error("the rest of the least number by -1:", n, err)
	}
	for _, a := range edges() {
		if n, err := Div(a, 0); n != 0 || err != api.ErrZero {
			t.Error("Div by 0 of", a, n, err)
		}
		if n, err := Mod(a, 0); n != 0 || err != api.ErrZero {
			t.Error("Mod by 0 of", a, n, err)
		}
	}
}

// TestNeg holds Neg at all edges (P1.1).
func TestNeg(t *testing.T) {
	for _, a := range edges() {
		want, wantErr := fit(new(big.Int).Neg(big.NewInt(a)))
		if got, err := Neg(a); got != want || err != wantErr {
			t.Errorf("Neg(%d) is %d, error %d", a, got, err)
		}
	}
}

// TestParse holds what is read, and which error comes first (P1.1).
func TestParse(t *testing.T) {
	for _, c := range []struct {
		text string
		n    int64
		err  api.Errno
	}{
		{"0", 0, api.OK}, {"7", 7, api.OK}, {"-7", -7, api.OK}, {"10", 10, api.OK}, {"-100", -100, api.OK},
		{"9223372036854775807", math.MaxInt64, api.OK}, {"-9223372036854775808", math.MinInt64, api.OK},
		{"9223372036854775808", 0, api.ErrOver}, {"-9223372036854775809", 0, api.ErrOver},
		{"18446744073709551616", 0, api.ErrOver}, {"18446744073709551617", 0, api.ErrOver},
		{"1" + strings.Repeat("0", 5000), 0, api.ErrOver}, {"-1" + strings.Repeat("0", 5000), 0, api.ErrOver},
		{"99999999999999999999x", 0, api.ErrForm}, {"099999999999999999999", 0, api.ErrForm},
		{"", 0, api.ErrForm}, {"-", 0, api.ErrForm}, {"--1", 0, api.ErrForm}, {"1-", 0, api.ErrForm}, {"+1", 0, api.ErrForm},
		{"-0", 0, api.ErrForm}, {"00", 0, api.ErrForm}, {"01", 0, api.ErrForm}, {"-01", 0, api.ErrForm},
		{" 1", 0, api.ErrForm}, {"1 ", 0, api.ErrForm}, {"1\n", 0, api.ErrForm}, {"1_000", 0, api.ErrForm},
		{"0x1f", 0, api.ErrForm}, {"1e3", 0, api.ErrForm}, {"1.0", 0, api.ErrForm}, {"1\x00", 0, api.ErrForm},
		{"\xff", 0, api.ErrForm}, {"1\u0663", 0, api.ErrForm}, {"1/", 0, api.ErrForm}, {"1:", 0, api.ErrForm},
	} {
		if got, err := Parse(c.text); got != c.n || err != c.err {
			t.Errorf("Parse(%.30q) is %d, error %d; not %d, error %d", c.text, got, err, c.n, c.err)
		}
	}
}

// TestPrint holds texts against those of numbers without bounds (P1.1).
func TestPrint(t *testing.T) {
	for n, want := range map[int64]string{0: "0", 7: "7", -7: "-7", 120: "120", math.MaxInt64: "9223372036854775807", math.MinInt64: "-9223372036854775808"} {
		if got := Print(n); got != want {
			t.Errorf("Print(%d) is %q", n, got)
		}
	}
	for _, n := range edges() {
		if got, want := Print(n), big.NewInt(n).String(); got != want {
			t.Errorf("Print(%d) is %q", n, got)
		}
	}
}

// TestPrintedIsParsed holds that what is printed is parsed to itself (P1.2).
func TestPrintedIsParsed(t *testing.T) {
	for _, n := range edges() {
		if got, err := Parse(Print(n)); got != n || err != api.OK {
			t.Errorf("Parse(Print(%d)) is %d, error %d", n, got, err)
		}
	}
}

// TestNothingElseIsParsed goes through all short texts of the bytes that matter: what is parsed is what is printed (P1.2).
func TestNothingElseIsParsed(t *testing.T) {
	const bytes = "-+0129 _x\x00"
	texts := []string{""}
	for range 5 {
		longer := []string{""}
		for _, s := range texts {
			for i := range len(bytes) {
				longer = append(longer, s+bytes[i:i+1])
			}
		}
		texts = longer
	}
	printed := map[string]int64{}
	for n := int64(-9999); n <= 99999; n++ {
		printed[Print(n)] = n
	}
	for _, s := range texts {
		n, err := Parse(s)
		want, is := printed[s]
		if is && (n != want || err != api.OK) || !is && (n != 0 || err != api.ErrForm) {
			t.Fatalf("Parse(%q) is %d, error %d", s, n, err)
		}
	}
}

// TestSingleBytes holds that of single bytes only digits are texts of numbers (P1.2).
func TestSingleBytes(t *testing.T) {
	for b := range 256 {
		digit := b >= '0' && b <= '9'
		for _, s := range []string{string([]byte{byte(b)}), string([]byte{'1', byte(b)}), string([]byte{'-', '1', byte(b)})} {
			n, err := Parse(s)
			if digit != (err == api.OK) || !digit && (n != 0 || err != api.ErrForm) {
				t.Errorf("Parse(%q) is %d, error %d", s, n, err)
			}
		}
	}
}

// FuzzParse holds P1.2 at any text: it is one that is printed, or it is refused.
func FuzzParse(f *testing.F) {
	for _, s := range []string{"", "0", "-0", "-12", "9223372036854775808", "1x"} {
		f.Add(s)
	}
	f.Fuzz(func(t *testing.T, s string) {
		n, err := Parse(s)
		if err == api.OK && Print(n) != s || err != api.OK && n != 0 {
			t.Errorf("Parse(%q) is %d, error %d", s, n, err)
		}
	})
}
