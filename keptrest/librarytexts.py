"""The texts of the prompt programs of the library.

Each one is a function of two names, whose calls stand for the prims prompt and take: these have no words.
"""

LEAVES = """
(fn (prompt take)
 (rec ((hand (fn (leaf) (take (fn (part) (pair leaf part)))))
       (walk (fn () (if (same (ask) 0) (hand (ask)) (seq (walk) (walk)))))
       (drive
        (fn (told)
         (if (is-pair told)
          (seq (show (first told)) (drive ((second told) ())))
          ()))))
  (drive (prompt (fn () (seq (walk) ()))))))
"""

FRINGE = """
(fn (prompt take)
 (rec ((read (fn () (if (same (ask) 0) (ask) (pair (read) (read)))))
       (walk
        (fn (tree)
         (if (is-pair tree)
          (seq (walk (first tree)) (walk (second tree)))
          (take (fn (part) (pair tree part))))))
       (begin (fn (tree) (prompt (fn () (seq (walk tree) ())))))
       (look (fn (told) (if (is-pair told) (show (first told)) ())))
       (compare
        (fn (one other)
         (seq
          (look one)
          (look other)
          (if (if (is-pair one) (is-pair other) #no)
           (if (same (first one) (first other))
            (compare ((second one) ()) ((second other) ()))
            #no)
           (same one other))))))
  (let ((tree (read))) (compare (begin tree) (begin (read))))))
"""

CHOICES = """
(fn (prompt take)
 (rec ((read (fn (n each) (if (same n 0) () (pair (each) (read (less n 1) each)))))
       (append (fn (l end) (if (is-pair l) (pair (first l) (append (second l) end)) end)))
       (try
        (fn (part l)
         (if (is-pair l) (append (part (first l)) (try part (second l))) ())))
       (choose (fn (l) (take (fn (part) (try part l)))))
       (row
        (fn (lists)
         (if (is-pair lists) (pair (choose (first lists)) (row (second lists))) ())))
       (sum (fn (l s) (if (is-pair l) (sum (second l) (add s (first l))) s)))
       (rising
        (fn (l)
         (if (is-pair l)
          (let ((m (second l)))
           (if (is-pair m) (if (below (first l) (first m)) (rising m) #no) #yes))
          #yes)))
       (has (fn (l x) (if (is-pair l) (if (same x (first l)) #yes (has (second l) x)) #no)))
       (unlike
        (fn (l)
         (if (is-pair l) (if (has (second l) (first l)) #no (unlike (second l))) #yes)))
       (test-of
        (fn (word)
         (if (same word 'sum)
          (let ((goal (ask))) (fn (l) (same goal (sum l 0))))
          (if (same word 'rising) rising unlike)))))
  (let ((lists (read (ask) (fn () (read (ask) (fn () (ask)))))))
   (let ((test (test-of (ask))))
    (prompt
     (fn () (let ((found (row lists))) (if (test found) (pair found ()) ()))))))))
"""

TASKS = """
(fn (prompt take)
 (rec ((read (fn (n each) (if (same n 0) () (pair (each) (read (less n 1) each)))))
       (append (fn (l end) (if (is-pair l) (pair (first l) (append (second l) end)) end)))
       (work
        (fn (l)
         (if (is-pair l)
          (seq (show (first l)) (take (fn (part) part)) (work (second l)))
          ())))
       (wait (fn (queue told) (if (is-function told) (append queue (pair told ())) queue)))
       (begin
        (fn (tasks queue)
         (if (is-pair tasks)
          (begin (second tasks)
           (wait queue (prompt (fn () (work (first tasks))))))
          (drive queue))))
       (drive
        (fn (queue)
         (if (is-pair queue)
          (drive (wait (second queue) ((first queue) ())))
          ()))))
  (begin (read (ask) (fn () (read (ask) (fn () (ask))))) ())))
"""

CELL = """
(fn (prompt take)
 (rec ((change (fn (step) (take (fn (part) (fn (state) (let ((next (step state))) ((part state) next)))))))
       (step-of
        (fn (word)
         (if (same word 'show)
          (fn (state) (seq (show state) state))
          (let ((n (ask)))
           (if (same word 'put) (fn (state) n) (fn (state) (add state n)))))))
       (work (fn () (if (more) (seq (change (step-of (ask))) (work)) ()))))
  ((prompt (fn () (seq (work) (fn (state) state)))) 0)))
"""
