// Package slumber: a small machine that can be put to sleep as bytes: see DOC.md.
package slumber

import (
	"slices"

	"slumber/api"
)

// Machine is a machine with its program, frames and heap.
type Machine struct {
	program api.Program
	state   int
	output  []int
	frames
	heap
}

// Check tells whether a program may be, and where it may not (P3).
func Check(p api.Program) (api.Errno, int) { return check(p) }

// New gives a machine (P4).
func New(p api.Program, capacity int) (*Machine, api.Errno) { return begin(p, capacity) }

// Run lets a machine make steps (P5).
func (m *Machine) Run(fuel int) (int, api.Errno) { return m.run(fuel) }

// Status tells the state (P6).
func (m *Machine) Status() api.Status {
	return api.Status{State: m.state, Objects: m.taken(), Draws: len(m.draws)}
}

// Output tells what has been put out (P6).
func (m *Machine) Output() []int { return slices.Clone(m.output) }

// Frames tells the frames (P6).
func (m *Machine) Frames() []api.Frame { return m.copyFrames() }

// Heap tells the slots (P6).
func (m *Machine) Heap() []api.Object { return m.copySlots() }

// Draw hands in draws (P9).
func (m *Machine) Draw(l []int) api.Errno { return m.addDraws(l) }

// Collect frees what is not alive (P10).
func (m *Machine) Collect() int { return m.collect() }

// Save tells the machine as bytes (P13).
func (m *Machine) Save() []byte { return m.save() }

// Wake makes a machine of bytes (P14).
func Wake(image []byte, capacity int, draws []int) (*Machine, api.Errno) {
	return wake(image, capacity, draws)
}
