// Package code turns kernels into their images and back, and tells what is wrong with them.
package code

import "loom/api"

// bytesEach is how many bytes of an image an instruction takes.
const bytesEach = 4

// Encode gives the image of a kernel, or what is wrong with the kernel and where.
func Encode(list []api.Instr) (string, api.Errno, int) {
	e, at := check(list)
	if e != api.OK {
		return "", e, at
	}
	var image []byte
	for _, x := range list {
		image = append(image, byte(x.Op), byte(x.A), byte(x.B), byte(x.C))
	}
	return string(image), api.OK, 0
}

// Decode gives the kernel of an image, or what is wrong with the image and where.
func Decode(image string) ([]api.Instr, api.Errno, int) {
	// The length comes first, so that no more than MaxCode instructions are ever laid out.
	if len(image)%bytesEach != 0 || len(image) > bytesEach*api.MaxCode {
		return nil, api.ErrSize, 0
	}
	list := unpack(image)
	e, at := check(list)
	if e != api.OK {
		return nil, e, at
	}
	return list, api.OK, 0
}

// unpack reads the instructions of an image; bytes that do not fill an instruction are left out.
func unpack(image string) []api.Instr {
	var list []api.Instr
	for i := 0; i+bytesEach <= len(image); i += bytesEach {
		x := api.Instr{Op: int(image[i]), A: int(image[i+1]), B: int(image[i+2]), C: int(image[i+3])}
		list = append(list, x)
	}
	return list
}
