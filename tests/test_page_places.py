"""Places of trees, methods and nodes: [4] and the interface of pages."""

import unittest

from sendstead.pages import Page

TEXT = """
  kind  A
    under   Thing  field x
 method   go  a   b :
      if  (a  <   @x)   then
   do none    else  x  :=   {u   v|say 'hi}
  end
end method stop :
end     end  more

  B method go : try   @x  := [1
     [ ]   new   A]
   taken   z  while   true then end return self end   end

    method   up1 : raise (up   go
-1)
  end end
      kind C under A end
"""


class PlacesTest(unittest.TestCase):
    def setUp(self):
        self.page = Page("page", TEXT)

    def test_places_of_trees(self):
        self.assertEqual([self.page.place(k) for k in range(3)], [(2, 3), (9, 14), (18, 7)])

    def test_places_of_methods(self):
        self.assertEqual(self.page.method_place(0, 0), (4, 2))
        self.assertEqual(self.page.method_place(0, 1), (8, 5))
        self.assertEqual(self.page.method_place(1, 0), (11, 5))
        self.assertEqual(self.page.method_place(1, 1), (15, 5))

    def test_places_of_nodes(self):
        self.assertEqual(
            self.page.node_places(0, 0),
            (
                (5, 7), (5, 11), (5, 12), (5, 19), (6, 4), (6, 7), (6, 21),
                (6, 29), (6, 36), (6, 40),
            ),
        )
        self.assertEqual(
            self.page.node_places(1, 0),
            (
                (11, 17), (11, 23), (11, 30), (11, 31), (12, 6), (12, 12),
                (13, 15), (13, 23), (13, 37), (13, 44),
            ),
        )
        self.assertEqual(self.page.node_places(1, 1), ((15, 20), (15, 26), (16, 1)))

    def test_methods_without_nodes(self):
        self.assertEqual(self.page.node_places(0, 1), ())

    def test_places_are_tuples(self):
        self.assertIs(type(self.page.place(0)), tuple)
        self.assertIs(type(self.page.method_place(0, 0)), tuple)
        self.assertIs(type(self.page.node_places(0, 0)), tuple)
        self.assertIs(type(self.page.node_places(0, 0)[0]), tuple)

    def test_a_node_is_ahead_of_the_nodes_within_it(self):
        page = Page("page", "more A method go : do ((a + b) - [c {| say d}]) end end")
        self.assertEqual(
            page.node_places(0, 0),
            tuple((1, column) for column in (20, 23, 24, 25, 29, 34, 35, 37, 40, 44)),
        )

    def test_messages_parameters_and_names_are_no_nodes(self):
        page = Page("page", "more A method go a b : try do (up c) taken d do {e f|} end end end")
        self.assertEqual(page.node_places(0, 0), ((1, 24), (1, 28), (1, 31), (1, 46), (1, 49)))

    def test_names_of_the_arguments(self):
        page = Page(name="page", text="more A method go : do 1 end end")
        self.assertEqual(page.place(k=0), (1, 1))
        self.assertEqual(page.method_place(k=0, m=0), (1, 8))
        self.assertEqual(page.node_places(k=0, m=0), ((1, 20), (1, 23)))


if __name__ == "__main__":
    unittest.main()
