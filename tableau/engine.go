package tableau

import "cubit/api"

// An Engine is a tableau that is worked on; package world plays circuits on it. It is used by one goroutine at a time.
type Engine struct {
	// What New and the methods put here is right by itself, and isn't checked again.
	now api.Tableau
}

// New is an engine of n qubits that are all 0.
func New(n int) (*Engine, api.Errno) {
	t, e := Zero(n)
	if e != api.OK {
		return nil, e
	}
	return &Engine{now: t}, api.OK
}

// Apply turns the tableau by a gate. What is refused leaves it as it was.
func (x *Engine) Apply(name string, qubits []int) api.Errno {
	if x == nil {
		return api.ErrArg
	}
	return x.become(applied(x.now, name, qubits))
}

// Weights are that of the outcome 1, and that of all.
func (x *Engine) Weights(qubit int) (one, all api.Root, e api.Errno) {
	if x == nil {
		return api.Root{}, api.Root{}, api.ErrArg
	}
	outcome, certain, e := found(x.now, qubit)
	if e != api.OK {
		return api.Root{}, api.Root{}, e
	}
	all = api.Root{P: 1}
	if !certain {
		return api.Root{P: 1, K: 1}, all, api.OK
	}
	return api.Root{P: int64(outcome)}, all, api.OK
}

// Project makes the tableau what it is behind a measurement that found bit. What is refused leaves it as it was.
func (x *Engine) Project(qubit, bit int) api.Errno {
	if x == nil {
		return api.ErrArg
	}
	return x.become(projected(x.now, qubit, bit))
}

// Tableau is a copy of the tableau.
func (x *Engine) Tableau() api.Tableau {
	if x == nil {
		return api.Tableau{}
	}
	return copied(x.now)
}

// become takes over what a call has told, if that wasn't an error.
func (x *Engine) become(next api.Tableau, e api.Errno) api.Errno {
	if e == api.OK {
		x.now = next
	}
	return e
}
