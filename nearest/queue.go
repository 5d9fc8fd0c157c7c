package nearest

import (
	"container/heap"

	"shapesearch/api"
	"shapesearch/frontier"
)

// queue keeps the open nodes of a search in order: it is a heap, and a search can use it.
type queue interface {
	heap.Interface
	frontier.Open
}

// fronts is a queue as a list.
type fronts []api.Front

// Len returns the number of nodes, for the heap.
func (f fronts) Len() int { return len(f) }

// Less reports whether a node is taken before another one, for the heap.
func (f fronts) Less(i, j int) bool { return frontier.Before(f[i], f[j]) }

// Swap exchanges two nodes, for the heap.
func (f fronts) Swap(i, j int) { f[i], f[j] = f[j], f[i] }

// Push adds a node at the end, for the heap.
func (f *fronts) Push(x any) {
	if front, ok := x.(api.Front); ok {
		*f = append(*f, front)
	}
}

// Pop removes the node at the end, for the heap.
func (f *fronts) Pop() any {
	last := len(*f) - 1
	front := (*f)[last]
	*f = (*f)[:last]
	return front
}

// Put adds a node.
func (f *fronts) Put(x api.Front) {
	heap.Push(f, x)
}

// Take returns the next node, and removes it.
func (f *fronts) Take() (api.Front, bool) {
	if len(*f) == 0 {
		return api.Front{}, false
	}
	front, ok := heap.Pop(f).(api.Front)
	return front, ok
}
