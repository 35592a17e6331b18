package expand

import "halfplane/api"

// asked is a name that is asked for a precision.
type asked struct {
	name string
	prec int
}

// kept contains the answers to questions that were already found.
type kept[Q comparable, A any] struct {
	answers map[Q]A
}

// get returns the answer to a question, which is found if it is not known. Errors are not
// kept: nothing is asked after one.
func (k *kept[Q, A]) get(question Q, find func() (A, api.Errno)) (A, api.Errno) {
	if a, ok := k.answers[question]; ok {
		return a, api.OK
	}
	a, code := find()
	if code != api.OK {
		return a, code
	}
	if k.answers == nil {
		k.answers = map[Q]A{}
	}
	k.answers[question] = a
	return a, api.OK
}
