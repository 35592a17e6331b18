package expr

import "halfplane/api"

// word is the word of an operation.
type word struct {
	op   int
	text string
}

var words = [...]word{
	{api.OpG, "G"}, {api.OpEta, "eta"}, {api.OpTheta, "theta"}, {api.OpDelta, "Delta"}, {api.OpJ, "j"}, {api.OpNewform, "newform"},
	{api.OpV, "V"}, {api.OpU, "U"}, {api.OpT, "T"}, {api.OpTwist, "twist"}, {api.OpSerre, "serre"}, {api.OpBracket, "bracket"},
}

// opOf returns the operation of a word, and whether it is one of the language.
func opOf(text string) (int, bool) {
	for _, w := range words {
		if w.text == text {
			return w.op, true
		}
	}
	return 0, false
}

// textOf returns the word of an operation.
func textOf(op int) string {
	for _, w := range words {
		if w.op == op {
			return w.text
		}
	}
	return ""
}
