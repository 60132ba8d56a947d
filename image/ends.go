package image

// head is what an image begins with.
var head = [...]byte{'P', 'R', 'S', 'G', 1}

// sumSize is how many bytes the sum at its end has.
const sumSize = 4

func hasHead(b string) bool {
	return len(b) >= len(head) && [len(head)]byte([]byte(b[:len(head)])) == head
}

// hasSum tells whether bytes that have the head end with the sum of those ahead.
func hasSum(b string) bool {
	ahead := len(b) - sumSize
	return ahead >= len(head) && b[ahead:] == sumOf(b[:ahead])
}

// sumOf is the sum of bytes as it is laid down.
func sumOf(b string) string {
	sum := Sum(b)
	return string([]byte{byte(sum >> 24), byte(sum >> 16), byte(sum >> 8), byte(sum)})
}
