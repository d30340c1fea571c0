package store

import (
	"slices"
	"strconv"

	"cubby/api"
	"cubby/disk"
	"cubby/index"
	"cubby/log"
)

const (
	inbox    = "INBOX"
	treeName = "tree"
	// freshName is what a file is named till it is safe, and may take the place of an older one.
	freshName = "new"
)

func logName(number int) string { return "log." + strconv.Itoa(number) }

func indexName(number int) string { return "idx." + strconv.Itoa(number) }

func flagsName(number int) string { return "flg." + strconv.Itoa(number) }

// Logs answers the numbers of all logs, rising.
func Logs(d *disk.Disk) []int {
	names := d.Names()
	var numbers []int
	for number := range api.MaxBoxes {
		if slices.Contains(names, logName(number)) {
			numbers = append(numbers, number)
		}
	}
	return numbers
}

// Lay gives a file just these bytes. At every moment there is either what was there before, or these, never a part.
func Lay(d *disk.Disk, name string, b []byte) api.Errno {
	if slices.Contains(d.Names(), freshName) {
		if e := d.Remove(freshName); e != api.OK {
			return e
		}
	}
	if e := d.Append(freshName, b); e != api.OK {
		return e
	}
	if e := d.Sync(freshName); e != api.OK {
		return e
	}
	return d.Rename(freshName, name)
}

// Tree answers the page that the file tree should be: which mailbox each log is.
func Tree(d *disk.Disk) ([]byte, api.Errno) {
	var places []index.Place
	for _, number := range Logs(d) {
		b, e := d.Read(logName(number))
		if e != api.OK {
			return nil, e
		}
		places = append(places, index.Place{Number: number, Name: log.Read(b).Name})
	}
	return index.PutTree(places)
}
