package nearest

import (
	"container/heap"

	"shapesearch/api"
	"shapesearch/frontier"
)

// fronts is a heap (package container/heap) of open nodes.
type fronts []api.Front

func (f fronts) Len() int           { return len(f) }
func (f fronts) Less(i, j int) bool { return frontier.Before(f[i], f[j]) }
func (f fronts) Swap(i, j int)      { f[i], f[j] = f[j], f[i] }

// Push adds a node at the end, for the heap.
func (f *fronts) Push(x any) {
	if front, ok := x.(api.Front); ok {
		*f = append(*f, front)
	}
}

// Pop removes the node at the end, for the heap.
func (f *fronts) Pop() any {
	last := len(*f) - 1
	front := (*f)[last]
	*f = (*f)[:last]
	return front
}

// queue is where the open nodes of a search wait.
type queue struct{ waiting fronts }

// Put adds a node.
func (q *queue) Put(f api.Front) {
	heap.Push(&q.waiting, f)
}

// Take returns the next node, and removes it.
func (q *queue) Take() (api.Front, bool) {
	if len(q.waiting) == 0 {
		return api.Front{}, false
	}
	front, ok := heap.Pop(&q.waiting).(api.Front)
	return front, ok
}
