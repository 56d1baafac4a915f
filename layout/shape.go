package layout

import "bulkhead/api"

// shape is a channel, asked for the sizes of what it has in the memory.
type shape api.Channel

// ask asks for a size, if a channel can have that kind, those words and that depth; else it has no words at all.
func (s shape) ask(size func() int) int {
	if !s.sized() {
		return 0
	}
	return size()
}

// sized tells whether the channel's stage and ports have sizes: a sampling one's hang on no depth.
func (s shape) sized() bool {
	if s.Words < 1 || s.Words > api.MaxMessage {
		return false
	}
	return s.Kind == api.KindSampling || s.Kind == api.KindQueuing && s.Depth >= 1 && s.Depth <= api.MaxDepth
}

// whole tells whether the channel may be laid out: it has sizes, and a sampling one names no depth.
func (s shape) whole() bool {
	return s.sized() && (s.Kind == api.KindQueuing || s.Depth == 0)
}

// places counts the words of all messages that are held at once, each with its length.
func (s shape) places() int {
	message := 1 + s.Words
	if s.Kind == api.KindQueuing {
		return s.Depth * message
	}
	return message
}

// stage: whether a message is there, or how many; then the places.
func (s shape) stage() int { return 1 + s.places() }

// port: of a sampling channel there, fresh, of a queuing one first, how many, lost; then the places.
func (s shape) port() int {
	if s.Kind == api.KindQueuing {
		return 3 + s.places()
	}
	return 2 + s.places()
}
