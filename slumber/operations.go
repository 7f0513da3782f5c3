package slumber

import "slumber/api"

// operation is a row of the table: how many values it pops and pushes, which instruction comes next, what its A may be, and what it does.
type operation struct {
	pops, pushes int
	next         way
	takes        func(p api.Program, f api.Func, a int) bool
	does         doing
}

// doing makes a step and answers the state that comes of it. The values it pops, the deepest first, are on the stack still: whether something is alive is asked ahead of the step. If it answers a trap it has changed nothing.
type doing func(m *Machine, a int, v []api.Value) int

// itsParams stands for the pops of a Call, which only the called function can tell.
const itsParams = -1

// way says which instructions may come behind an operation.
type way int

const (
	onward    way = iota // the one that follows
	away                 // the one that A names
	eitherWay            // one of these two
	nowhere              // none in this function
)

// operations is the one table that all goes by; its indices are the numbers of the operations.
var operations = [api.Ops]operation{
	api.Int:     {pops: 0, pushes: 1, takes: anything, does: doInt},
	api.Nil:     {pops: 0, pushes: 1, takes: nothing, does: doNil},
	api.Load:    {pops: 0, pushes: 1, takes: aLocal, does: doLoad},
	api.Store:   {pops: 1, pushes: 0, takes: aLocal, does: doStore},
	api.Dup:     {pops: 1, pushes: 2, takes: nothing, does: doDup},
	api.Pop:     {pops: 1, pushes: 0, takes: nothing, does: doPop},
	api.Swap:    {pops: 2, pushes: 2, takes: nothing, does: doSwap},
	api.Add:     {pops: 2, pushes: 1, takes: nothing, does: doAdd},
	api.Sub:     {pops: 2, pushes: 1, takes: nothing, does: doSub},
	api.Mul:     {pops: 2, pushes: 1, takes: nothing, does: doMul},
	api.Less:    {pops: 2, pushes: 1, takes: nothing, does: doLess},
	api.Same:    {pops: 2, pushes: 1, takes: nothing, does: doSame},
	api.Jump:    {pops: 0, pushes: 0, next: away, takes: anInstruction, does: doJump},
	api.JumpNot: {pops: 1, pushes: 0, next: eitherWay, takes: anInstruction, does: doJumpNot},
	api.Call:    {pops: itsParams, pushes: 1, takes: aFunction, does: doCall},
	api.Return:  {pops: 1, pushes: 0, next: nowhere, takes: nothing, does: doReturn},
	api.Record:  {pops: 0, pushes: 1, takes: aRecordSize, does: doRecord},
	api.Array:   {pops: 1, pushes: 1, takes: nothing, does: doArray},
	api.Weak:    {pops: 1, pushes: 1, takes: nothing, does: doWeak},
	api.Get:     {pops: 1, pushes: 1, takes: aField, does: doGet},
	api.Put:     {pops: 2, pushes: 0, takes: aField, does: doPut},
	api.At:      {pops: 2, pushes: 1, takes: nothing, does: doAt},
	api.Set:     {pops: 3, pushes: 0, takes: nothing, does: doSet},
	api.Len:     {pops: 1, pushes: 1, takes: nothing, does: doLen},
	api.Strong:  {pops: 1, pushes: 1, takes: nothing, does: doStrong},
	api.IsRef:   {pops: 1, pushes: 1, takes: nothing, does: doIsRef},
	api.Print:   {pops: 1, pushes: 0, takes: nothing, does: doPrint},
	api.Halt:    {pops: 0, pushes: 0, next: nowhere, takes: nothing, does: doHalt},
}

func anything(api.Program, api.Func, int) bool { return true }

// nothing: an A that says nothing must be 0 all the same, so that no two programs differ in it alone.
func nothing(_ api.Program, _ api.Func, a int) bool { return a == 0 }

func aLocal(_ api.Program, f api.Func, a int) bool { return within(a, 0, f.Locals-1) }

func anInstruction(_ api.Program, f api.Func, a int) bool { return within(a, 0, len(f.Code)-1) }

func aFunction(p api.Program, _ api.Func, a int) bool { return within(a, 0, len(p.Funcs)-1) }

func aRecordSize(_ api.Program, _ api.Func, a int) bool { return within(a, 0, api.MaxRecord) }

func aField(_ api.Program, _ api.Func, a int) bool { return within(a, 0, api.MaxRecord-1) }

func within(n, least, greatest int) bool { return least <= n && n <= greatest }

// popsOf tells how many values an instruction pops. The instruction must be one that the table takes.
func popsOf(p api.Program, in api.Instr) int {
	if n := operations[in.Op].pops; n != itsParams {
		return n
	}
	return p.Funcs[in.A].Params
}
