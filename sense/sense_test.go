package sense

import (
	"math"
	"reflect"
	"slices"
	"strconv"
	"strings"
	"testing"

	"souffleur/api"
	"souffleur/script"
)

// read are the commands of s, which is a script.
func read(t testing.TB, s string) []api.Cmd {
	t.Helper()
	l, place, err := script.Parse(s)
	if err != api.OK {
		t.Fatalf("%q is no script: error %d at %d", s, err, place)
	}
	return l
}

// checkWell holds that s is well formed for so many peers.
func checkWell(t *testing.T, s string, peers int) {
	t.Helper()
	if place, err := Check(read(t, s), peers); place != 0 || err != api.OK {
		t.Errorf("Check(%.200q, %d) is %d, error %d", s, peers, place, err)
	}
}

// checkMet holds that of the script around the ^ in marked the error want is met first, where the ^ stands.
func checkMet(t *testing.T, marked string, peers int, want api.Errno) {
	t.Helper()
	at := strings.Index(marked, "^")
	s := marked[:at] + marked[at+1:]
	if place, err := Check(read(t, s), peers); place != at || err != want {
		t.Errorf("Check(%.200q, %d) is %d, error %d; not %d, error %d", s, peers, place, err, at, want)
	}
}

// TestWell holds that of such scripts nothing is met (P11.1).
func TestWell(t *testing.T) {
	for _, s := range []string{
		"", "exit", "exit exit", `send "${a}${b}"`, "if ($a) {} else {exit}", "while (1) {timeout never}", `expect {-ex "a" {} eof {exit}}`, `expect {timeout {}} expect {timeout {}}`,
		`timeout 9 set a "x" let b (1 + 2) incr a - 1 call p proc p {}`,
		`spawn 0 use 1 expect {-i 1 -ex "a" {exp_continue} -gl "b*" {} -re "c" {} timeout {} eof {} -i 0 eof {} default {}} expect_before {eof {}} expect_after {timeout {}}`,
	} {
		checkWell(t, s, 2)
	}
	for _, l := range [][]api.Cmd{nil, {}} {
		for _, peers := range []int{0, 1, 8, -1, math.MinInt, math.MaxInt} {
			if place, err := Check(l, peers); place != 0 || err != api.OK {
				t.Errorf("Check(%v, %d) is %d, error %d", l, peers, place, err)
			}
		}
	}
}

// TestProcs holds where a proc may stand, and of which name (P11.1).
func TestProcs(t *testing.T) {
	for _, s := range []string{
		"proc p {}", "proc p {} proc q {}", "proc q {exit} exit proc p {}", `set p "x" proc p {} incr p 1`,
		"proc a {} proc b {} proc c {} proc d {} proc e {} proc f {} proc g {} proc h {} proc i {} proc j {} proc k {} proc l {} proc m {} proc n {} proc o {} proc p {} proc q {} proc r {}",
	} {
		checkWell(t, s, 1)
	}
	for _, marked := range []string{
		"if (1) {^proc p {}}", "if (1) {} else {^proc p {}}", "if (1) {exit} else {exit ^proc p {}}", "while (1) {exit ^proc p {}}", "proc p {^proc q {}}", "proc p {^proc p {}}", "exit if (1) {if (1) {} else {while (1) {^proc p {}}}}",
		"expect {eof {^proc p {}}}", `expect {-ex "a" {} timeout {exit ^proc p {}}}`, "expect_before {default {^proc p {}}}", `expect_after {-re "a" {^proc p {}}}`, "proc p {expect {eof {if (1) {^proc q {}}}}}",
	} {
		checkMet(t, marked, 1, api.ErrThen)
	}
	for _, marked := range []string{"proc p {} ^proc p {}", "proc p {} proc q {} ^proc p {exit}", "proc p {} ^proc p {} proc p {}", "proc q {} exit proc p {} ^proc q {} proc p {}", "proc p {if (1) {exit}} ^proc p {}"} {
		checkMet(t, marked, 1, api.ErrMet)
	}
	// One that stands within counts ahead of all that stands within it.
	checkMet(t, "proc p {} if (1) {^proc p {}}", 1, api.ErrThen)
	checkMet(t, "if (1) {^proc p {call q exp_continue}}", 1, api.ErrThen)
	checkMet(t, "proc p {} ^proc p {call q}", 1, api.ErrMet)
	checkMet(t, "proc p {^call q} proc p {}", 1, api.ErrName)
	checkMet(t, "expect {eof {^proc p {exp_continue}}}", 1, api.ErrThen)
}

// TestCalls holds what may be called (P11.1).
func TestCalls(t *testing.T) {
	for _, s := range []string{
		"proc p {} call p", "call p proc p {}", "proc p {call p}", "proc p {call q} proc q {call p}", "if (1) {call p} else {call q} proc q {} proc p {}", "call p call p exit call p proc p {}", "call call proc call {}",
		`expect {eof {call p} -gl "*" {call q}} proc p {} proc q {}`, "while (1) {expect_after {timeout {while (1) {call pq_1}}}} proc pq_1 {}",
	} {
		checkWell(t, s, 1)
	}
	for _, marked := range []string{
		"^call p", "exit ^call p exit", "^call p call q", "proc p {} ^call q", "^call q proc p {}", "call p ^call q call r proc p {}", "proc p {^call q}", "if (1) {^call p}", "if (1) {} else {^call p}", "while (1) {exit ^call p}",
		"expect {eof {^call p}}", "expect {eof {} timeout {^call p}}", "expect_before {eof {^call p}}", "expect_after {eof {^call p}}", `set p "" ^call p`, "^call pp proc p {}", "^call p proc pp {}",
	} {
		checkMet(t, marked, 1, api.ErrName)
	}
	// Anywhere is also where it may not stand.
	checkMet(t, "call p if (1) {^proc p {}}", 1, api.ErrThen)
	checkMet(t, "call p if (1) {} else {exit ^proc p {}}", 1, api.ErrThen)
	checkMet(t, "call p expect {eof {} timeout {^proc p {}}}", 1, api.ErrThen)
	checkMet(t, "call q proc p {^proc q {}}", 1, api.ErrThen)
	checkMet(t, "call p proc p {} ^proc p {}", 1, api.ErrMet)
}

// varsUpTo are commands that have the names from v1 up to v and n.
func varsUpTo(n int) string {
	s := ""
	for i := range n {
		name := "v" + strconv.Itoa(i+1)
		s += []string{"set " + name + ` "" `, "let " + name + " (1) ", "incr " + name + " 1 "}[i%3]
	}
	return s
}

// TestVars holds how many variables there may be (P11.1).
func TestVars(t *testing.T) {
	full := varsUpTo(16)
	again := `set v16 "" let v1 (1) incr v2 - 3 `
	for _, s := range []string{full, full + again, full + full, full + "if ($v17) {" + again + "}", "if (1) {" + varsUpTo(15) + "} incr v16 1 " + again, "proc p {" + full + "} " + full, full + `send "${v17}${1}" call v17 proc v17 {}`} {
		checkWell(t, s, 1)
	}
	for _, more := range []string{`^set w ""`, "^let w (1)", "^incr w 1", "^let w ($v1)", "^incr w - 1 incr x 1", "^let v17 (1) let v18 (1)", "if (1) {^let w (1)}", "if (1) {} else {^let w (1)}", "while (1) {exit ^incr w 1}", "proc p {^let w (1)}", `expect {eof {} -ex "a" {^set w ""}}`, "expect_after {timeout {let v3 (1) ^incr w 1}}", "if (1) {let v1 (1)} ^let w (1)"} {
		checkMet(t, full+more, 1, api.ErrFull)
		checkMet(t, full+again+more, 1, api.ErrFull)
		checkMet(t, "if (1) {} else {"+full+"} exit "+more, 1, api.ErrFull)
		checkMet(t, "while (1) {"+varsUpTo(3)+"} expect {eof {"+varsUpTo(9)+"} timeout {"+varsUpTo(12)+"}} proc q {"+full+"}"+more, 1, api.ErrFull)
		checkWell(t, varsUpTo(14)+strings.Replace(more, "^", "", 1), 1)
	}
	// What stands behind counts not, and what stands in other commands neither.
	checkMet(t, varsUpTo(10)+"if (1) {let a (1)} else {let b (1)} expect {eof {let c (1)} timeout {let d (1) let e (1)}} incr f 1 incr a 1 ^let g (1) let h (1)", 1, api.ErrFull)
	checkWell(t, varsUpTo(15)+`proc w1 {} call w1 proc w2 {} send "${w3}" let v1 ($w4) set w5 "" incr w5 1`, 1)
}

// TestPeers holds which peers may be begun and used, and which a rule may be for (P11.1).
func TestPeers(t *testing.T) {
	for _, peers := range []int{1, 2, 3, 8, 9, 100, math.MaxInt} {
		n := strconv.Itoa(peers - 1)
		for _, s := range []string{"spawn 0", "use 0", "spawn " + n, "use " + n, "if (1) {} else {spawn " + n + " use " + n + "}", "expect {-i " + n + ` -ex "a" {}}`, "expect_after {eof {} -i " + n + " eof {}}", "expect_before {timeout {use 0}}"} {
			checkWell(t, s, peers)
		}
	}
	for _, peers := range []int{0, 1, 2, 8, 100, math.MaxInt, -1, -2, math.MinInt} {
		n := strconv.Itoa(max(peers, 0))
		for _, n := range []string{n, "9223372036854775807"} {
			for _, marked := range []string{"^spawn N", "^use N", "exit ^use N spawn N", "if (1) {^spawn N}", "if (1) {} else {^use N}", "while (1) {^spawn N}", "proc p {^use N}", "expect {timeout {^spawn N}}", `expect {^-i N -ex "a" {}}`, `expect {^-i N -gl "a" {} -i N -gl "b" {}}`, `expect {timeout {} ^-i N -re "a" {exit}}`, "expect {eof {} ^-i N eof {}}", "expect_before {^-i N eof {}}", "exit expect_after {default {} ^-i N eof {use N}}", "expect {timeout {expect {timeout {} ^-i N eof {}}}}"} {
				checkMet(t, strings.ReplaceAll(marked, "N", n), peers, api.ErrName)
			}
		}
		// Of a rule that tells none, nothing is met.
		checkWell(t, `expect {-ex "a" {} eof {} timeout {} default {}}`, peers)
	}
	checkMet(t, "^use 0", 0, api.ErrName)
	checkMet(t, "^use 0", -1, api.ErrName)
	checkMet(t, "use 0 use 1 ^use 2", 2, api.ErrName)
}

// TestTimeouts holds which timeouts may be (P11.1).
func TestTimeouts(t *testing.T) {
	for n := range 10 {
		checkWell(t, "timeout "+strconv.Itoa(n), 1)
	}
	checkWell(t, "timeout never if (1) {timeout never}", 1)
	for _, n := range []string{"10", "11", "100", "9223372036854775807"} {
		for _, ahead := range []string{"", "timeout 9 ", "if (1) {", "if (1) {} else {", "while (1) {", "proc p {", "expect {timeout {", "expect_before {eof {timeout 0 "} {
			marked := ahead + "^timeout " + n + " timeout 99"
			checkMet(t, marked+strings.Repeat("}", strings.Count(marked, "{")-strings.Count(marked, "}")), 1, api.ErrLong)
		}
	}
}

// TestAgain holds where an exp_continue may stand (P11.1).
func TestAgain(t *testing.T) {
	for _, rules := range []string{"eof", "timeout", "default", `-ex "a"`, `-i 0 -re "a"`, "-i 0 eof", "eof {} timeout"} {
		for _, word := range []string{"expect", "expect_before", "expect_after", "if (1) {} expect"} {
			ahead := word + " {" + rules + " {"
			checkWell(t, ahead+"exp_continue}}", 1)
			checkWell(t, ahead+"exit exp_continue exp_continue}}", 1)
			checkWell(t, ahead+"if (1) {exp_continue} else {while (1) {exp_continue}}}}", 1)
			checkWell(t, ahead+"expect {timeout {} eof {exp_continue}} exp_continue}}", 1)
			checkWell(t, "proc p {"+ahead+"exp_continue}}}", 1)
			checkWell(t, "if (1) {exit} else {"+ahead+"exp_continue}}}", 1)
			checkMet(t, ahead+"exp_continue}} ^exp_continue", 1, api.ErrThen)
			checkMet(t, ahead+"^proc p {exp_continue}}}", 1, api.ErrThen)
			checkMet(t, "proc p {"+ahead+"exp_continue}} ^exp_continue}", 1, api.ErrThen)
		}
	}
	for _, marked := range []string{"^exp_continue", "exit ^exp_continue exp_continue", "if (1) {^exp_continue}", "if (1) {} else {^exp_continue}", "while (1) {^exp_continue}", "proc p {^exp_continue}", "proc p {if (1) {while (1) {exit ^exp_continue}}}"} {
		checkMet(t, marked, 1, api.ErrThen)
	}
}

// rulesOf are so many rules, in commands of up to seven, each with a body.
func rulesOf(n int, body string) string {
	s := ""
	for i := range n {
		if i%7 == 0 {
			s += []string{"expect {", "expect_before {", "expect_after {"}[i/7%3]
		}
		s += []string{"eof", `-ex "a"`, "timeout", `-re ""`, "default", `-i 0 -gl "*"`, "-i 0 eof"}[i%7] + " {" + body + "} "
		if i%7 == 6 || i == n-1 {
			s += "} "
		}
	}
	return s
}

// TestRules holds how many rules there may be (P11.1).
func TestRules(t *testing.T) {
	checkWell(t, rulesOf(60, ""), 1)
	checkWell(t, rulesOf(60, "exit")+"exit", 1)
	checkWell(t, rulesOf(30, "")+"proc p {"+rulesOf(30, "")+"}", 1)
	checkWell(t, "if (1) {"+rulesOf(7, "")+"} else {"+rulesOf(10, rulesOf(3, ""))+"} while (1) {"+rulesOf(12, "exit")+"} expect {eof {}}", 1)
	for _, ahead := range []string{rulesOf(60, ""), "if (1) {" + rulesOf(20, "") + "} else {" + rulesOf(20, "") + "} while (1) {" + rulesOf(20, "") + "}", rulesOf(20, rulesOf(2, "")), "proc p {" + rulesOf(12, rulesOf(4, "")) + "}", "if (1) {if (1) {" + rulesOf(60, "exit") + "}}"} {
		for _, more := range []string{"expect {^eof {}}", "expect_before {^timeout {}}", "expect_after {^default {} eof {}}", `expect {^-ex "a" {expect {eof {}}}}`, "if (1) {} else {expect {^-i 0 eof {exit}}}", "proc q {expect {^eof {} eof {}}}", "while (1) {expect_after {^eof {exp_continue}}}", `expect {^-i 1 -re "(" {}}`} {
			checkMet(t, ahead+more, 1, api.ErrFull)
		}
	}
	// Rules are counted as they stand: those within one ahead of the next one.
	inner := rulesOf(57, "")
	checkWell(t, "expect {eof {"+inner+"} timeout {} default {}}", 1)
	checkMet(t, "expect {eof {"+inner+`} timeout {} default {} ^-ex "a" {}}`, 1, api.ErrFull)
	checkMet(t, "expect {eof {"+inner+"} timeout {expect {eof {}}} ^default {}}", 1, api.ErrFull)
	checkMet(t, "expect {eof {"+inner+"} timeout {} default {expect {^eof {}}}}", 1, api.ErrFull)
	checkMet(t, rulesOf(59, "")+"expect {eof {expect {^eof {}}} timeout {}}", 1, api.ErrFull)
	// It is the first thing of a rule, and what is ahead counts ahead of it.
	checkMet(t, rulesOf(58, "")+"expect {eof {} timeout {} ^timeout {}}", 1, api.ErrFull)
	checkMet(t, rulesOf(57, "")+"expect {eof {} timeout {} ^timeout {} default {}}", 1, api.ErrMet)
	checkMet(t, rulesOf(59, "")+"expect {^-i 1 eof {} eof {}}", 1, api.ErrName)
}

// TestPatterns holds which patterns a rule may have (P11.1).
func TestPatterns(t *testing.T) {
	text := func(n int) string { return `"` + strings.Repeat("a", n) + `"` }
	for _, p := range []string{`-ex ""`, `-ex "("`, `-ex "["`, `-ex "\x00\xff\\"`, `-gl ""`, `-gl "[a-c]*"`, `-gl "("`, `-re ""`, `-re "(a|b)+"`, `-re "a{2,3}"`, "-ex " + text(200), "-gl " + text(200), "-re " + text(200), "-i 0 -ex " + text(200)} {
		checkWell(t, "expect {"+p+" {}}", 1)
		checkWell(t, "expect_before {eof {} "+p+" {exit} "+p+" {}}", 1)
	}
	for _, p := range []string{`-gl "["`, `-gl "\\"`, `-re "("`, `-re "["`, `-re "*"`, `-re ")"`, `-re "a{9}"`, "-ex " + text(201), "-gl " + text(201), "-re " + text(201)} {
		for _, p := range []string{p, "-i 0 " + p} {
			checkMet(t, "expect {^"+p+" {}}", 1, api.ErrArg)
			checkMet(t, "expect {^"+p+" {call p} eof {}}", 1, api.ErrArg)
			checkMet(t, `expect_before {-ex "a" {} eof {} ^`+p+" {} "+p+" {}}", 1, api.ErrArg)
			checkMet(t, "if (1) {} else {expect_after {eof {expect {timeout {} ^"+p+" {}}}}}", 1, api.ErrArg)
			checkMet(t, "expect {eof {^call p} "+p+" {}}", 1, api.ErrName)
		}
		checkMet(t, "expect {^-i 1 "+p+" {}}", 1, api.ErrName)
	}
}

// TestTwice holds which rules may stand in a command with others (P11.1).
func TestTwice(t *testing.T) {
	for _, word := range []string{"expect", "expect_before", "expect_after"} {
		for _, rules := range []string{"timeout {} default {} eof {}", "default {} timeout {}", "eof {} -i 0 eof {} -i 1 eof {}", "-i 1 eof {} -i 0 eof {} eof {}", `-ex "a" {} -ex "a" {} -i 0 -ex "a" {} -i 0 -ex "a" {}`, `-ex "" {} eof {} timeout {} default {} -ex "" {}`} {
			checkWell(t, word+" {"+rules+"}", 2)
			// Those of another command count not, be it around, within or beside.
			checkWell(t, word+" {"+rules+"} "+word+" {"+rules+"}", 2)
			checkWell(t, word+" {"+strings.ReplaceAll(rules, "{}", "{"+word+" {"+rules+"}}")+"}", 2)
		}
		for _, rules := range []string{"timeout {} ^timeout {}", "default {} ^default {}", "eof {} ^eof {}", "-i 0 eof {} ^-i 0 eof {}", "-i 1 eof {} -i 0 eof {} eof {} ^-i 1 eof {} eof {}", "timeout {} default {} eof {} ^timeout {} default {}", `default {} -ex "a" {exit} ^default {exit}`, "timeout {expect {timeout {}}} ^timeout {}", "eof {exit} timeout {} default {} -i 0 eof {} ^eof {call p}"} {
			checkMet(t, word+" {"+rules+"}", 2, api.ErrMet)
			checkMet(t, "expect {timeout {"+word+" {"+rules+"}}}", 2, api.ErrMet)
			checkMet(t, word+" {"+strings.Replace(rules, "^", "", 1)[:strings.Index(rules, "^")]+"} "+word+" {"+rules+"}", 2, api.ErrMet)
		}
	}
	// Of one rule the peer counts first.
	checkMet(t, "expect {eof {} ^-i 2 eof {} -i 2 eof {}}", 2, api.ErrName)
	checkMet(t, "expect {timeout {^call p} timeout {}}", 2, api.ErrName)
}

// TestOrder holds that commands and rules are looked at as they stand, each ahead of what stands within it (P11.1).
func TestOrder(t *testing.T) {
	for marked, want := range map[string]api.Errno{
		"^call p timeout 10": api.ErrName, "^timeout 10 call p": api.ErrLong,
		"^exp_continue use 9": api.ErrThen, "^use 9 exp_continue": api.ErrName,
		"if (1) {^timeout 10} call p": api.ErrLong, "^call p if (1) {timeout 10}": api.ErrName,
		"if (1) {^timeout 10} else {call p}": api.ErrLong, "if (1) {} else {^timeout 10} call p": api.ErrLong,
		"if (1) {if (1) {} else {^exp_continue}} else {call p}":   api.ErrThen,
		"while (1) {^timeout 10 call p} call p":                   api.ErrLong,
		"proc p {^timeout 10} proc p {}":                          api.ErrLong,
		"expect {eof {^timeout 10} eof {}}":                       api.ErrLong,
		"expect {eof {} ^eof {timeout 10}}":                       api.ErrMet,
		"expect {^-i 7 eof {timeout 10}} call p":                  api.ErrName,
		`expect {^-re "(" {timeout 10}} call p`:                   api.ErrArg,
		"expect {eof {} timeout {^call p} timeout {}} exit":       api.ErrName,
		"expect {eof {expect {^-i 7 eof {}}} -i 8 eof {}}":        api.ErrName,
		"expect {eof {} timeout {expect {eof {} ^eof {}}}} use 7": api.ErrMet,
	} {
		checkMet(t, marked, 1, want)
		checkMet(t, "exit "+marked, 1, want)
		checkMet(t, "while (1) {} if (1) {exit} else {} "+marked+" timeout 11", 1, want)
	}
}

// TestPlaces holds that the place is the At, whatever it is (P11.1).
func TestPlaces(t *testing.T) {
	for _, at := range []int{0, 1, -1, 77, math.MaxInt, math.MinInt} {
		for want, l := range map[api.Errno][]api.Cmd{
			api.ErrThen: {{Kind: api.CmdAgain, At: at}},
			api.ErrName: {{Kind: api.CmdExit, At: 5}, {Kind: api.CmdWhile, At: 6, Body: []api.Cmd{{Kind: api.CmdCall, Name: "p", At: at}}}},
			api.ErrMet:  {{Kind: api.CmdExpect, At: 5, Rules: []api.Rule{{Kind: api.RuleEof, Peer: -1, At: 6}, {Kind: api.RuleEof, Peer: -1, At: at}}}},
		} {
			if place, err := Check(l, 1); place != at || err != want {
				t.Errorf("Check(%v, 1) is %d, error %d; not %d, error %d", l, place, err, at, want)
			}
		}
	}
}

// notScripts are commands that may not be.
func notScripts() [][]api.Cmd {
	exit := api.Cmd{Kind: api.CmdExit, At: 3}
	deep := []api.Cmd{exit}
	for range 17 {
		deep = []api.Cmd{{Kind: api.CmdWhile, Body: deep}}
	}
	return [][]api.Cmd{
		{{}}, {{Kind: -1}}, {{Kind: 17}}, {{Kind: math.MaxInt, At: 9}}, {exit, {}}, {{Kind: api.CmdSet}}, {{Kind: api.CmdSet, Name: "7"}}, {{Kind: api.CmdCall, Name: "A"}}, {{Kind: api.CmdUse, N: -1}}, {{Kind: api.CmdSpawn, N: math.MinInt64}}, {{Kind: api.CmdTimeout, N: -2}}, {{Kind: api.CmdExpect}}, {{Kind: api.CmdExit, Body: []api.Cmd{exit}}},
		{{Kind: api.CmdWhile, Body: []api.Cmd{{}}}}, {{Kind: api.CmdIf, Cond: api.Expr{N: -1}}}, {{Kind: api.CmdIf, Else: []api.Cmd{{Kind: 99}}}}, {{Kind: api.CmdProc, Name: "p", Else: []api.Cmd{exit}}},
		{{Kind: api.CmdExpect, Rules: []api.Rule{{}}}}, {{Kind: api.CmdExpect, Rules: []api.Rule{{Kind: api.RuleEof, Peer: -2}}}}, {{Kind: api.CmdExpect, Rules: []api.Rule{{Kind: api.RuleTimeout}}}}, {{Kind: api.CmdExpect, Rules: []api.Rule{{Kind: api.RulePattern, Pattern: api.Pattern{Kind: 3}}}}}, {{Kind: api.CmdExpect, Rules: []api.Rule{{Kind: api.RuleEof, Peer: -1, Body: []api.Cmd{{}}}}}},
		deep,
	}
}

// TestNoScript holds that what may not be is refused, whatever else would be met of it (P11.1, P0).
func TestNoScript(t *testing.T) {
	met := api.Cmd{Kind: api.CmdAgain, At: 7}
	for _, no := range notScripts() {
		for _, l := range [][]api.Cmd{no, slices.Concat([]api.Cmd{met}, no), append(slices.Clone(no), met)} {
			for _, peers := range []int{0, 1, 8, -1, math.MinInt, math.MaxInt} {
				if place, err := Check(l, peers); place != 0 || err != api.ErrArg {
					t.Errorf("Check(%v, %d) is %d, error %d", l, peers, place, err)
				}
			}
		}
	}
}

// TestNames holds which names there are, and in which order (P11.1).
func TestNames(t *testing.T) {
	for s, want := range map[string][2]string{
		"": {}, "exit": {}, `set a ""`: {"a", ""}, "let b (1)": {"b", ""}, "incr c 1": {"c", ""}, "incr c - 1": {"c", ""}, "proc p {}": {"", "p"}, "call p": {},
		`set b "" let a (1) incr c 1`:                                                                           {"b a c", ""},
		`set b "" incr a 1 let b (1) set c ""`:                                                                  {"b a c", ""},
		`set a "${x}" let b ($y) send "${z}"`:                                                                   {"a b", ""},
		"proc q {} proc p {} proc q {}":                                                                         {"", "q p"},
		`proc a {set b ""} proc b {let a (1)}`:                                                                  {"b a", "a b"},
		`set a "" proc a {} call z`:                                                                             {"a", "a"},
		"if (1) {incr z 1} else {incr y 1 incr z 1} while (1) {incr x 1}":                                       {"z y x", ""},
		"while (1) {if (1) {proc p {proc q {}}} else {proc r {}}} proc s {}":                                    {"", "p q r s"},
		`expect {eof {set d "" proc d {}} timeout {set c "" proc c {}}} set b "" proc b {}`:                     {"d c b", "d c b"},
		`expect_before {-ex "a" {incr a 1}} expect_after {default {if (1) {incr c 1} else {incr b 1}}}`:         {"a c b", ""},
		"if (1) {expect {eof {incr c 1 proc q {}} -i 5 eof {incr d 1}}} else {incr b 1 proc p {}} incr c 1":     {"c d b", "q p"},
		"proc p {exp_continue call q} proc q {timeout 99} incr b 1 " + varsUpTo(20):                             {"b " + strings.TrimSpace(varNames(20)), "p q"},
		"proc p {if (1) {incr c 1}} if (1) {proc p {incr b 1}} else {proc o {incr c 1 incr a 1}} proc q {exit}": {"c b a", "p o q"},
	} {
		l := read(t, s)
		if got := Vars(l); !slices.Equal(got, strings.Fields(want[0])) {
			t.Errorf("Vars(%q) is %q, not %q", s, got, want[0])
		}
		if got := Procs(l); !slices.Equal(got, strings.Fields(want[1])) {
			t.Errorf("Procs(%q) is %q, not %q", s, got, want[1])
		}
	}
}

// varNames are the names that varsUpTo has.
func varNames(n int) string {
	s := ""
	for i := range n {
		s += "v" + strconv.Itoa(i+1) + " "
	}
	return s
}

// TestNamesOfAny holds which names there are in commands that may not be (P11.1, P0).
func TestNamesOfAny(t *testing.T) {
	cmd := func(kind int, name string) api.Cmd { return api.Cmd{Kind: kind, Name: name} }
	// Whatever stands within a command of any kind counts: Body, Else, then Rules.
	for _, kind := range []int{0, -1, 17, math.MaxInt, math.MinInt, api.CmdCall, api.CmdExit, api.CmdIf, api.CmdExpect} {
		l := []api.Cmd{{
			Kind: kind, Name: "no",
			Rules: []api.Rule{{Body: []api.Cmd{cmd(api.CmdIncr, "e"), cmd(api.CmdProc, "E")}}, {Kind: 9, Body: []api.Cmd{cmd(api.CmdSet, "A B"), cmd(api.CmdSet, "b")}}},
			Else:  []api.Cmd{cmd(api.CmdLet, "d"), cmd(api.CmdProc, "d"), cmd(api.CmdLet, "c"), cmd(4, "x")},
			Body:  []api.Cmd{cmd(api.CmdSet, "c"), cmd(api.CmdProc, "F"), cmd(7, "y"), cmd(0, "z")},
		}, cmd(api.CmdProc, "d"), cmd(api.CmdProc, "\xff")}
		if got := Vars(l); !slices.Equal(got, []string{"c", "d", "e", "A B", "b"}) {
			t.Errorf("Vars(%v) is %q", l, got)
		}
		if got := Procs(l); !slices.Equal(got, []string{"F", "d", "E", "\xff"}) {
			t.Errorf("Procs(%v) is %q", l, got)
		}
	}
	for kind := -1; kind <= 18; kind++ {
		vars, procs := 0, 0
		switch kind {
		case api.CmdSet, api.CmdLet, api.CmdIncr:
			vars = 1
		case api.CmdProc:
			procs = 1
		}
		l := []api.Cmd{cmd(kind, "a"), cmd(kind, "a")}
		if v, p := Vars(l), Procs(l); len(v) != vars || len(p) != procs {
			t.Errorf("of the kind %d Vars is %q, Procs %q", kind, v, p)
		}
	}
	deep := []api.Cmd{cmd(api.CmdSet, "a"), cmd(api.CmdProc, "p")}
	for i := range 60000 {
		switch i % 3 {
		case 0:
			deep = []api.Cmd{{Kind: api.CmdIf, Body: deep}}
		case 1:
			deep = []api.Cmd{{Kind: api.CmdIf, Else: deep}, cmd(api.CmdSet, "b")}
		case 2:
			deep = []api.Cmd{{Rules: []api.Rule{{Body: deep}}}}
		}
	}
	if v, p := Vars(deep), Procs(deep); !slices.Equal(v, []string{"a", "b"}) || !slices.Equal(p, []string{"p"}) {
		t.Errorf("of what stands deeply Vars is %q, Procs %q", v, p)
	}
	if place, err := Check(deep, 1); place != 0 || err != api.ErrArg {
		t.Errorf("of what stands deeply Check is %d, error %d", place, err)
	}
}

// TestMany holds scripts of more commands than a text has room for (P11.1, P0).
func TestMany(t *testing.T) {
	var l []api.Cmd
	var want []string
	for i := range 200000 {
		name := "p" + strconv.FormatInt(int64(i), 36)
		want = append(want, name)
		l = append(l, api.Cmd{Kind: api.CmdCall, Name: name, At: i}, api.Cmd{Kind: api.CmdProc, Name: name, At: i})
	}
	if place, err := Check(l, 0); place != 0 || err != api.OK {
		t.Errorf("Check is %d, error %d", place, err)
	}
	if got := Procs(l); !slices.Equal(got, want) {
		t.Errorf("there are %d procs", len(got))
	}
	l = append(l, api.Cmd{Kind: api.CmdProc, Name: "p0", At: -3})
	if place, err := Check(l, 0); place != -3 || err != api.ErrMet {
		t.Errorf("Check is %d, error %d", place, err)
	}
}

// TestKept holds that what is handed in is not changed, and that what is answered is the caller's own (R4, R7).
func TestKept(t *testing.T) {
	s := `set a "x" if (1) {proc p {incr b 1}} else {expect {eof {proc q {set a ""}} -re "(" {}}}`
	l := read(t, s)
	vars, procs := Vars(l), Procs(l)
	place, err := Check(l, 1)
	vars[0], procs[0] = "x", "y"
	if !reflect.DeepEqual(l, read(t, s)) {
		t.Error("the script is changed")
	}
	if v, p := Vars(l), Procs(l); !slices.Equal(v, []string{"a", "b"}) || !slices.Equal(p, []string{"p", "q"}) {
		t.Errorf("Vars is %q, Procs %q", v, p)
	}
	if again, wrong := Check(l, 1); again != place || wrong != err || err != api.ErrThen {
		t.Errorf("Check is %d, error %d; then %d, error %d", place, err, again, wrong)
	}
}
