package world

import (
	"slices"

	"cubit/api"
	"cubit/coin"
)

// A player is a run under way: the coins are those that are left, met counts the measurements and resets that it came to, also those that were left out.
type player struct {
	engine Engine
	coins  []api.Coin
	met    int
	run    api.Run
}

// played is Play of what was looked at already. The engine may be the caller's, and may write over what the caller handed in: what was looked at is what is played, so that it is copied. A run uses no more coins than it has operations.
func played(e Engine, ops []api.Op, coins []api.Coin) (api.Run, api.Errno) {
	p := player{engine: e, coins: slices.Clone(coins[:min(len(coins), len(ops))])}
	for _, op := range own(ops) {
		if fault := p.do(op); fault != api.OK {
			return api.Run{}, fault
		}
	}
	return p.run, api.OK
}

// own is the operations in memory that is nobody else's, so that an engine may be handed their lists of qubits.
func own(ops []api.Op) []api.Op {
	ops = slices.Clone(ops)
	for j := range ops {
		ops[j].Qubits = slices.Clone(ops[j].Qubits)
	}
	return ops
}

// do is an operation, or nothing, if its condition doesn't hold.
func (p *player) do(op api.Op) api.Errno {
	num := p.met
	if op.Kind != api.OpGate {
		p.met++
	}
	switch {
	case op.If && p.run.Bits&op.Mask != op.Value:
		return api.OK
	case op.Kind == api.OpMeasure:
		return p.measure(num, op.Qubits[0], op.Bit)
	case op.Kind == api.OpReset:
		return p.reset(num, op.Qubits[0])
	}
	return p.engine.Apply(op.Name, op.Qubits)
}

func (p *player) measure(num, qubit, bit int) api.Errno {
	outcome, e := p.find(num, qubit)
	if e != api.OK {
		return e
	}
	p.run.Bits = p.run.Bits&^(1<<bit) | uint64(outcome)<<bit
	return api.OK
}

func (p *player) reset(num, qubit int) api.Errno {
	outcome, e := p.find(num, qubit)
	if e != api.OK || outcome == 0 {
		return e
	}
	return p.engine.Apply("x", []int{qubit})
}

// find lets the next coin decide what the qubit is, and tells it as an event.
func (p *player) find(num, qubit int) (int, api.Errno) {
	if len(p.coins) == 0 {
		return 0, api.ErrCoins
	}
	one, all, e := p.engine.Weights(qubit)
	if e != api.OK {
		return 0, e
	}
	outcome, certain, e := coin.Toss(p.coins[0], one, all)
	if e != api.OK {
		return 0, e
	}
	if e = p.engine.Project(qubit, outcome); e != api.OK {
		return 0, e
	}
	p.coins = p.coins[1:]
	p.run.Coins++
	p.run.Events = append(p.run.Events, api.Event{Num: num, Qubit: qubit, Outcome: outcome, Certain: certain})
	return outcome, api.OK
}
