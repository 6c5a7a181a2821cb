package rules

import (
	"withy/api"
	"withy/arena"
	"withy/client"
	"withy/collect"
	"withy/epoch"
	"withy/field"
	"withy/head"
	"withy/heap"
	"withy/hist"
	"withy/iter"
	"withy/lin"
	"withy/mark"
	"withy/mem"
	"withy/model"
	"withy/op"
	"withy/plan"
	"withy/root"
	"withy/shade"
	"withy/stack"
	"withy/sweep"
	"withy/tag"
	"withy/tale"
	"withy/turn"
	"withy/word"
	"withy/world"
)

// This file holds the calls as the chapters list them: another signature doesn't build.

// P2.4: what works by steps is a machine, in every layer.
var _ = []mem.Machine{
	(*stack.Pop)(nil),
	(*stack.Push)(nil),
	(*epoch.Pin)(nil),
	(*epoch.Leave)(nil),
	(*epoch.Advance)(nil),
	(*shade.Shade)(nil),
	(*field.Stamp)(nil),
	(*field.Read)(nil),
	(*field.See)(nil),
	(*field.Turn)(nil),
	(*field.Lay)(nil),
	(*arena.Make)(nil),
	(*arena.Free)(nil),
	(*mark.Mark)(nil),
	(*sweep.Sweep)(nil),
	(*sweep.Reclaim)(nil),
	(*collect.Collect)(nil),
	(*iter.Walk)(nil),
	(*client.Client)(nil),
}

// The calls of word.
func _() {
	var _ func(uint64, int, int) uint64 = word.Get
	var _ func(uint64, int, int, uint64) uint64 = word.Set
	var _ func(uint64, int) bool = word.Fits
	var _ func([]api.Bits) (uint64, bool) = word.Pack
	var _ func(uint64, []int) ([]uint64, bool) = word.Unpack
}

// The calls of mem.
func _() {
	var _ func(int) *mem.Mem = mem.New
	var _ func([]uint64) *mem.Mem = mem.Of
	var _ func(*mem.Mem) int = (*mem.Mem).Size
	var _ func(*mem.Mem, int) uint64 = (*mem.Mem).Load
	var _ func(*mem.Mem, int, uint64) bool = (*mem.Mem).Store
	var _ func(*mem.Mem, int, uint64, uint64) bool = (*mem.Mem).Swap
	var _ func(*mem.Mem, int, uint64) uint64 = (*mem.Mem).Add
	var _ func(*mem.Mem) int = (*mem.Mem).Touches
	var _ func(*mem.Mem) api.Touch = (*mem.Mem).Last
	var _ func(*mem.Mem) []uint64 = (*mem.Mem).Words
	var _ func(*mem.Mem) *mem.Mem = (*mem.Mem).Copy
}

// The calls of turn.
func _() {
	var _ func(uint64) complex128 = turn.At
	var _ func(complex128) complex128 = turn.Next
	var _ func(complex128) complex128 = turn.Back
	var _ func(complex128) int = turn.Quarter
	var _ func(complex128, complex128) int = turn.Between
	var _ func(complex128) bool = turn.Barrier
	var _ func(uint64) bool = turn.Fenced
	var _ func(uint64) uint64 = turn.Cycle
	var _ func(uint64) int = turn.Black
	var _ func(uint64) int = turn.Born
}

// The calls of head.
func _() {
	var _ func(api.Header) (uint64, bool) = head.Pack
	var _ func(uint64) (api.Header, bool) = head.Unpack
	var _ func(int, int, int, uint64) (uint64, bool) = head.Made
	var _ func(uint64, uint64) bool = head.Marked
	var _ func(uint64, uint64) (uint64, bool) = head.Shaded
	var _ func(uint64) (uint64, bool) = head.Blackened
	var _ func(uint64, uint64) (uint64, bool) = head.Retired
	var _ func(uint64, int) (uint64, bool) = head.Freed
}

// The calls of tag.
func _() {
	var _ func(uint64, int) (uint64, bool) = tag.Top
	var _ func(uint64) (uint64, int) = tag.TopParts
	var _ func(uint64, int) uint64 = tag.Moved
	var _ func(uint64, int) (uint64, bool) = tag.Entry
	var _ func(uint64) (uint64, int) = tag.EntryParts
	var _ func(int, int, uint64) (uint64, bool) = tag.Handle
	var _ func(uint64) (int, int, uint64, bool) = tag.HandleParts
}

// The calls of plan.
func _() {
	var _ func(api.Config) bool = plan.Right
	var _ func(api.Config) int = plan.Size
	var _ func(api.Config, int) int = plan.Pin
	var _ func(api.Config, int, int) int = plan.Entry
	var _ func(api.Config, int) int = plan.View
	var _ func(api.Config, int) int = plan.Start
	var _ func(api.Config, int) int = plan.Header
	var _ func(api.Config, int) int = plan.Link
	var _ func(api.Config, int, int) int = plan.Body
	var _ func(api.Config, int) int = plan.Slot
	var _ func(api.Config) *mem.Mem = plan.Memory
}

// The calls of stack.
func _() {
	var _ func(api.Config) *stack.Pop = stack.NewPop
	var _ func(*stack.Pop, *mem.Mem) bool = (*stack.Pop).Step
	var _ func(api.Config, int) *stack.Push = stack.NewPush
	var _ func(*stack.Push, *mem.Mem) bool = (*stack.Push).Step
	var _ func(api.Config, []uint64) []int = stack.List
}

// The calls of epoch.
func _() {
	var _ func(api.Config, int) *epoch.Pin = epoch.NewPin
	var _ func(api.Config, int) *epoch.Leave = epoch.NewLeave
	var _ func(api.Config) *epoch.Advance = epoch.NewAdvance
}

// The calls of shade.
func _() {
	var _ func(api.Config, int, uint64) *shade.Shade = shade.NewShade
	var _ func(*shade.Shade, *mem.Mem) bool = (*shade.Shade).Step
	var _ func(api.Config, []uint64) int = shade.Grays
}

// The calls of field.
func _() {
	var _ func() *field.Book = field.NewBook
	var _ func(*field.Book, int) int = (*field.Book).Born
	var _ func(*field.Book, uint64) int = (*field.Book).Turned
	var _ func(api.Config, int, *field.Book) *field.Stamp = field.NewStamp
	var _ func(api.Config, int, int, *field.Book) *field.Read = field.NewRead
	var _ func(api.Config, int, int, uint64, *field.Book) *field.See = field.NewSee
	var _ func(api.Config, *field.Book) *field.Turn = field.NewTurn
	var _ func(api.Config, int, int, int, int, uint64, *field.Book) *field.Lay = field.NewLay
}

// The calls of root.
func _() {
	var _ func(api.Config, int, uint64) *root.Table = root.NewTable
	var _ func(*root.Table) int = (*root.Table).Held
	var _ func(*root.Table) bool = (*root.Table).Room
	var _ func(*root.Table, int) (int, uint64, bool) = (*root.Table).Take
	var _ func(*root.Table, uint64) (int, int, bool) = (*root.Table).Find
	var _ func(*root.Table, int) bool = (*root.Table).Drop
	var _ func(*root.Table, int) uint64 = (*root.Table).Word
}

// The calls of arena.
func _() {
	var _ func(api.Config, int, int, uint64, []uint64) *arena.Make = arena.NewMake
	var _ func(api.Config, int) *arena.Free = arena.NewFree
	var _ func(api.Config, []uint64, int) []uint64 = arena.Body
}

// The calls of mark.
func _() {
	var _ func(api.Config, uint64) *mark.Mark = mark.NewMark
	var _ func(*mark.Mark, *mem.Mem) bool = (*mark.Mark).Step
	var _ func(api.Config, []uint64, uint64) []bool = mark.Found
}

// The calls of sweep.
func _() {
	var _ func(api.Config, uint64) *sweep.Sweep = sweep.NewSweep
	var _ func(api.Config) *sweep.Reclaim = sweep.NewReclaim
}

// The calls of collect.
func _() {
	var _ func(api.Config) *collect.Collect = collect.NewCollect
	var _ func(*collect.Collect, *mem.Mem) bool = (*collect.Collect).Step
	var _ func(api.Config) int = collect.Bound
}

// The calls of op.
func _() {
	var _ func(api.Arg, int, [][]uint64) uint64 = op.Value
	var _ func(api.Op, int, [][]uint64) api.Call = op.Call
	var _ func(int) bool = op.Walk
	var _ func(int) bool = op.Writes
}

// The calls of model.
func _() {
	var _ func(api.Config) *model.Model = model.New
	var _ func(*model.Model, int, api.Call, api.Answer) bool = (*model.Model).Does
	var _ func(*model.Model, int) int = (*model.Model).Held
	var _ func(*model.Model, int, uint64) int = (*model.Model).Node
	var _ func(*model.Model, int, int) int = (*model.Model).Field
	var _ func(*model.Model) *model.Model = (*model.Model).Copy
}

// The calls of hist.
func _() {
	var _ func([]api.Event, int) bool = hist.Right
	var _ func(api.Event, api.Event) bool = hist.Ahead
	var _ func([]api.Event) []int = hist.Order
	var _ func([]api.Event, []int) bool = hist.Respects
}

// The calls of lin.
func _() {
	var _ func(api.Config, []api.Event, []int) int = lin.Replay
	var _ func(api.Config, []api.Event) bool = lin.Points
	var _ func(api.Config, []api.Event) ([]int, bool, api.Errno) = lin.Search
}

// The calls of iter.
func _() {
	var _ func(api.Config, int, uint64, *field.Book) *iter.Walk = iter.NewWalk
	var _ func(*iter.Walk) int = (*iter.Walk).Left
	var _ func(*iter.Walk) int = (*iter.Walk).Front
	var _ func(*iter.Walk, *mem.Mem) bool = (*iter.Walk).Step
	var _ func(*iter.Walk) int = (*iter.Walk).Go
}

// The calls of client.
func _() {
	var _ func(api.Config, int, *field.Book) *client.Client = client.New
	var _ func(*client.Client, api.Call) bool = (*client.Client).Begin
	var _ func(*client.Client, *mem.Mem) bool = (*client.Client).Step
	var _ func(*client.Client) bool = (*client.Client).Busy
	var _ func(*client.Client) api.Answer = (*client.Client).Answer
	var _ func(*client.Client) (int, bool) = (*client.Client).Point
	var _ func(*client.Client, uint64) int = (*client.Client).Holds
}

// The calls of world.
func _() {
	var _ func(api.Config, [][]api.Op) *world.World = world.New
	var _ func(*world.World, int) bool = (*world.World).Pick
	var _ func(*world.World, []int) int = (*world.World).Run
	var _ func(*world.World) bool = (*world.World).Rest
	var _ func(*world.World) int = (*world.World).Now
	var _ func(*world.World, int) bool = (*world.World).Busy
	var _ func(*world.World) bool = (*world.World).Done
	var _ func(*world.World) []api.Event = (*world.World).Events
	var _ func(*world.World, int) []uint64 = (*world.World).Told
	var _ func(*world.World, int, uint64) int = (*world.World).Holds
	var _ func(*world.World) []uint64 = (*world.World).Words
	var _ func(*world.World) int = (*world.World).Touches
	var _ func(*world.World) api.Touch = (*world.World).Last
	var _ func(*world.World) uint64 = (*world.World).Epoch
	var _ func(*world.World) int = (*world.World).Cycles
}

// The calls of heap.
func _() {
	var _ func(api.Config, []uint64) []bool = heap.Reached
	var _ func(api.Config, []uint64) []bool = heap.Needed
	var _ func(api.Config, []uint64) int = heap.Check
	var _ func(api.Config, []uint64, int) []int = heap.Fields
}

// The calls of tale.
func _() {
	var _ func(tale.Tale) bool = tale.Right
	var _ func(tale.Tale) (string, api.Errno) = tale.Print
	var _ func(string) (tale.Tale, int, api.Errno) = tale.Parse
	var _ func(tale.Tale) (string, api.Errno) = tale.Play
}
