package model

import "quilt/api"

// lay lays numbers of wide bytes each behind b, the highest first. One below 0 wraps round in them.
func lay[T int | int8 | int32](b []byte, wide int, l ...T) []byte {
	for _, x := range l {
		for i := wide - 1; i >= 0; i-- {
			b = append(b, byte(int(x)>>(8*i)))
		}
	}
	return b
}

// layList lays ahead of a list how many it has, in many bytes.
func layList[T int | int8 | int32](b []byte, many, wide int, l []T) []byte {
	return lay(lay(b, many, len(l)), wide, l...)
}

func layNode(b []byte, n api.Node) []byte {
	b = lay(b, 1, n.Op)
	b = layList(b, 1, 1, n.In)
	b = lay(b, 1, n.K, n.Stride, n.Pad, n.Out)
	b = lay(b, 2, n.Mul)
	b = lay(b, 1, n.Shift, n.Zero, n.To.H, n.To.W, n.To.C)
	b = layList(b, 2, 1, n.W)
	return layList(b, 1, 4, n.B)
}
