package world

import (
	"cubit/api"
	"cubit/dense"
)

// A list is the engine over a list of amplitudes.
type list struct {
	state api.State
}

func newList(n int) (*list, api.Errno) {
	s, e := dense.Zero(n)
	if e != api.OK {
		return nil, e
	}
	return &list{s}, api.OK
}

func (l *list) Apply(name string, qubits []int) api.Errno {
	return l.become(dense.Apply(l.state, name, qubits))
}

func (l *list) Weights(qubit int) (one, all api.Root, e api.Errno) {
	return dense.Weights(l.state, qubit)
}

func (l *list) Project(qubit, bit int) api.Errno {
	return l.become(dense.Project(l.state, qubit, bit))
}

// become takes over what a call answered. What was refused leaves the state as it is.
func (l *list) become(s api.State, e api.Errno) api.Errno {
	if e == api.OK {
		l.state = s
	}
	return e
}
