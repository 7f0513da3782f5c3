package slumber

import "slumber/api"

// operation is a row of the table: how many values it pops and pushes, which instruction comes next, and what its A may be.
type operation struct {
	pops, pushes int
	next         way
	takes        func(p api.Program, f api.Func, a int) bool
}

// itsParams stands for the pops of a Call, which only the called function can tell.
const itsParams = -1

// way says which instructions may come behind an operation.
type way int

const (
	onward    way = iota // the one that follows
	away                 // the one that A names
	eitherWay            // one of these two
	nowhere              // none in this function
)

// operations is the one table that all goes by; its indices are the numbers of the operations.
var operations = [api.Ops]operation{
	api.Int:     {pops: 0, pushes: 1, takes: anything},
	api.Nil:     {pops: 0, pushes: 1, takes: nothing},
	api.Load:    {pops: 0, pushes: 1, takes: aLocal},
	api.Store:   {pops: 1, pushes: 0, takes: aLocal},
	api.Dup:     {pops: 1, pushes: 2, takes: nothing},
	api.Pop:     {pops: 1, pushes: 0, takes: nothing},
	api.Swap:    {pops: 2, pushes: 2, takes: nothing},
	api.Add:     {pops: 2, pushes: 1, takes: nothing},
	api.Sub:     {pops: 2, pushes: 1, takes: nothing},
	api.Mul:     {pops: 2, pushes: 1, takes: nothing},
	api.Less:    {pops: 2, pushes: 1, takes: nothing},
	api.Same:    {pops: 2, pushes: 1, takes: nothing},
	api.Jump:    {pops: 0, pushes: 0, next: away, takes: anInstruction},
	api.JumpNot: {pops: 1, pushes: 0, next: eitherWay, takes: anInstruction},
	api.Call:    {pops: itsParams, pushes: 1, takes: aFunction},
	api.Return:  {pops: 1, pushes: 0, next: nowhere, takes: nothing},
	api.Record:  {pops: 0, pushes: 1, takes: aRecordSize},
	api.Array:   {pops: 1, pushes: 1, takes: nothing},
	api.Weak:    {pops: 1, pushes: 1, takes: nothing},
	api.Get:     {pops: 1, pushes: 1, takes: aField},
	api.Put:     {pops: 2, pushes: 0, takes: aField},
	api.At:      {pops: 2, pushes: 1, takes: nothing},
	api.Set:     {pops: 3, pushes: 0, takes: nothing},
	api.Len:     {pops: 1, pushes: 1, takes: nothing},
	api.Strong:  {pops: 1, pushes: 1, takes: nothing},
	api.IsRef:   {pops: 1, pushes: 1, takes: nothing},
	api.Print:   {pops: 1, pushes: 0, takes: nothing},
	api.Halt:    {pops: 0, pushes: 0, next: nowhere, takes: nothing},
}

func anything(api.Program, api.Func, int) bool { return true }

// nothing: an A that says nothing must be 0 all the same, so that no two programs differ in it alone.
func nothing(_ api.Program, _ api.Func, a int) bool { return a == 0 }

func aLocal(_ api.Program, f api.Func, a int) bool { return within(a, 0, f.Locals-1) }

func anInstruction(_ api.Program, f api.Func, a int) bool { return within(a, 0, len(f.Code)-1) }

func aFunction(p api.Program, _ api.Func, a int) bool { return within(a, 0, len(p.Funcs)-1) }

func aRecordSize(_ api.Program, _ api.Func, a int) bool { return within(a, 0, api.MaxRecord) }

func aField(_ api.Program, _ api.Func, a int) bool { return within(a, 0, api.MaxRecord-1) }

func within(n, least, greatest int) bool { return least <= n && n <= greatest }

// popsOf tells how many values an instruction pops. The instruction must be one that the table takes.
func popsOf(p api.Program, in api.Instr) int {
	if n := operations[in.Op].pops; n != itsParams {
		return n
	}
	return p.Funcs[in.A].Params
}
