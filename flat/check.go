package flat

import "cubit/api"

// checkForm tells what is wrong with a row's form and with where it stands, whatever its names mean. In the body in which it stands so many rows are behind it.
func checkForm(row api.Row, behind int, at stand) api.Errno {
	switch row.Kind {
	case "gate", "repeat", "if":
		if row.Rows < 0 || row.Rows > behind {
			return api.ErrSyntax
		}
	case "qubits", "bits", "use", "measure", "reset":
		if row.Rows != 0 {
			return api.ErrSyntax
		}
	default:
		return api.ErrSyntax
	}
	if at.nested > api.MaxDepth {
		return api.ErrDeep
	}
	if !mayStand(row.Kind, at) {
		return api.ErrSyntax
	}
	return api.OK
}

// mayStand: may a row of that Kind stand there?
func mayStand(kind string, at stand) bool {
	switch kind {
	case "use", "repeat":
		return true
	case "qubits", "bits", "gate":
		return at.nested == 0
	}
	return !at.inGate
}
