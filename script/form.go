package script

import "souffleur/api"

// What may stand behind the word of a command, in this order.
const (
	aName = 1 << iota
	aNumber
	aText
	aCond
	aBlock
	anElse
	someRules
)

// formOf answers the word that a command of the kind begins with, and what stands behind it; of no kind, an empty one.
func formOf(kind int) (string, int) {
	switch kind {
	case api.CmdSet:
		return "set", aName | aText
	case api.CmdLet:
		return "let", aName | aCond
	case api.CmdIncr:
		return "incr", aName | aNumber
	case api.CmdIf:
		return "if", aCond | aBlock | anElse
	case api.CmdWhile:
		return "while", aCond | aBlock
	case api.CmdProc:
		return "proc", aName | aBlock
	case api.CmdCall:
		return "call", aName
	case api.CmdSpawn:
		return "spawn", aNumber
	case api.CmdUse:
		return "use", aNumber
	case api.CmdSend:
		return "send", aText
	case api.CmdTimeout:
		return "timeout", aNumber
	case api.CmdExpect:
		return "expect", someRules
	case api.CmdBefore:
		return "expect_before", someRules
	case api.CmdAfter:
		return "expect_after", someRules
	case api.CmdAgain:
		return "exp_continue", 0
	case api.CmdExit:
		return "exit", 0
	}
	return "", 0
}

// kindOf answers the kind of the commands that begin with the word; 0, if none do.
func kindOf(word string) int {
	for kind := api.CmdSet; kind <= api.CmdExit; kind++ {
		if own, _ := formOf(kind); own == word {
			return kind
		}
	}
	return 0
}

// wordOf answers the word of a rule of the kind, which is one without a pattern.
func wordOf(kind int) string {
	switch kind {
	case api.RuleTimeout:
		return "timeout"
	case api.RuleEof:
		return "eof"
	}
	return "default"
}

// flagOf answers the flag ahead of a pattern of the kind; of no kind, an empty one.
func flagOf(kind int) string {
	switch kind {
	case api.Exact:
		return "ex"
	case api.Shell:
		return "gl"
	case api.Regex:
		return "re"
	}
	return ""
}
