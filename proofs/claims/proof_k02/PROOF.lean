import PyProof.Rows.All
import Wide.All
import OpenK.AllK
import Wide.FinOn
import HandS.ForMost
import HandS.ForExc
import HandS.Walk
import HandS.Zip
import HandS.IsInst
import HandS.Flow
import HandS.More
import HandS.AnyAll
import HandS.Codes
import HandS.FStr
import HandS.TryMany
import HandS.ExcInit
import HandS.ExcIs
import HandS.ExcField
import KE.KExcSuper
import PySem.Challenge.RW_lateyields_k02_programs_read_and_shown
import KE.GoesZip
import KE.GoesEnum
import KE.GoesMore
import HandS.ClsMeth
import HandS.ExcSuper
import HandS.Defaults
import HandS.WordsDict
import HandS.Set
import HandS.Strs
import HandS.SetFor
import KE.KCallOwn
import HandS.Deep
import HandS.Conv
import HandS.Small
import HandS.OwnEq
import KE.KRevSl
import KE.KSuper
section
set_option Elab.async false
set_option linter.all false
set_option maxRecDepth 100000
namespace Ly
open PySem L2
def top (i : Nat) : Stmt := PySem.Challenge.pw_lateyields_k02_programs_read_and_shown.main.body.getD i (.Pass ⟨0, 0, 0, 0⟩)
abbrev t_wall : Stmt := top 0
abbrev t_copy_of : Stmt := top 3
abbrev t_shown : Stmt := top 7
abbrev t_BadRow_init : Stmt := inClass (top 9) 0
abbrev t_TooMany_init : Stmt := inClass (top 10) 0
abbrev t_Unknown_init : Stmt := inClass (top 11) 0
abbrev t_is_name : Stmt := top 17
abbrev t_is_how : Stmt := top 18
abbrev t_is_figure : Stmt := top 19
abbrev t_is_of_sort : Stmt := top 20
abbrev t_has_form : Stmt := top 21
abbrev t_Step_init : Stmt := inClass (top 28) 0
abbrev t_keeps : Stmt := top 29
abbrev t_Reader_init : Stmt := inClass (top 30) 0
abbrev t_Reader_take : Stmt := inClass (top 30) 1
abbrev t_Reader_define : Stmt := inClass (top 30) 2
abbrev t_Reader_mark : Stmt := inClass (top 30) 3
abbrev t_Reader_end : Stmt := inClass (top 30) 4
abbrev t_Reader_add : Stmt := inClass (top 30) 5
abbrev t_Reader_may_stand : Stmt := inClass (top 30) 6
abbrev t_Reader_remember : Stmt := inClass (top 30) 7
abbrev t_read_rows : Stmt := top 31
abbrev t_check_names : Stmt := top 32
abbrev t_check_limits : Stmt := top 33
abbrev t_Program_init : Stmt := inClass (top 35) 0
abbrev t_Program_read : Stmt := inClass (top 35) 1
abbrev t_Program_str : Stmt := inClass (top 35) 2
abbrev t_Program_eq : Stmt := inClass (top 35) 3
abbrev t_Program_len : Stmt := inClass (top 35) 4
abbrev t_Program_turned : Stmt := inClass (top 35) 5
abbrev t_Program_has_each : Stmt := inClass (top 35) 6
abbrev t_law_box : Stmt := top 37
abbrev t_law_take : Stmt := top 38
abbrev t_law_mixed : Stmt := top 39
abbrev t_law_pick : Stmt := top 40
abbrev t_law_names : Stmt := top 41
abbrev t_law_world : Stmt := top 42
abbrev t_law_rows : Stmt := top 43
abbrev t_law_row : Stmt := top 44
abbrev t_law_block : Stmt := top 45
abbrev t_law_program : Stmt := top 46
abbrev t_law_some_program : Stmt := top 47
abbrev t_law_long : Stmt := top 48
abbrev t_law_told : Stmt := top 49
abbrev t_law : Stmt := top 50
end Ly
end
section
set_option Elab.async false
set_option linter.all false
set_option maxRecDepth 100000
/-! Walks that the layer lacks: enumerate of a tuple, zip of a list and a tuple. -/
namespace Ly
open PySem PySem.Spec PyProof.Rows L2

/-! ### enumerate(t), t a tuple -/
section
variable {prog : Program} {w : World} {A : Around} {E : Value → Shared → Prop} {s : Shared}
set_option maxHeartbeats 1000000 in
theorem enumNewT {v : Value} {o : Obj} {G : Heap → Prop} (B : Begins v o G) :
    Meets (Builtin.«enumerate.__new__» ⟨[.type "enumerate", v], []⟩) (fun _ R s => G s.heap ∧ R (.ok (.ret (.ref (s.heap.push o).objs.size)))
      { s with heap := (s.heap.push o).push { cls := .type "enumerate", data := .fields #[.none, .bool false, .ref s.heap.objs.size, rawInt 0, .none, .none] } }) :=
  .of_wp fun prog w A R s hh => by
    obtain ⟨hp, g, d, tk, os⟩ := s; obtain ⟨hG, h⟩ := hh
    have isSub := sub_enumerate
    have it0 : ∀ {A' : Around} {E : Value → Shared → Prop} {Q : Value → Shared → Prop}, Q (.ref hp.objs.size) ⟨hp.push o, g, d, tk, os⟩ → wpAny (model prog w) A' (pyIter v) Q E ⟨hp, g, d, tk, os⟩ := fun q => B.iter prog w _ _ ⟨hp, g, d, tk, os⟩ _ hG q
    wp_walk using it0
    refine wpAny_stack_any fun stk => wpAny_pure ?_
    split
    · rename_i c0 _ _ _ _ _
      cases (c0 == Value.type "enumerate")
      · (wp_walk using it0); exact ⟨_, rfl, h⟩
      · (wp_walk using it0); exact ⟨_, rfl, h⟩
    · (wp_walk using it0); exact ⟨_, rfl, h⟩
theorem callEnumT {v : Value} {o : Obj} {G : Heap → Prop} {Q : Value → Shared → Prop} (B : Begins v o G) (hG : G s.heap)
    (h : ∀ h', IsEnum h' (s.heap.objs.size + 1) s.heap.objs.size 0 .none → h'.get? s.heap.objs.size = some o → (∀ b u, s.heap.get? b = some u → h'.get? b = some u) → Q (.ref (s.heap.objs.size + 1)) { s with heap := h' }) :
    wpAny (model prog w) A (call (.type "enumerate") [v]) Q E s := by
  refine callType_new F.called_enumerate (by decide) (F.typeCall_enumerate_1 _) (F.newCall_enumerate_1 _) (fun obj => F.args_object_init_2 obj _) F.entry_enumerate_new (enumNewT B) ⟨hG, ?_⟩
  have sz : (s.heap.push o).objs.size = s.heap.objs.size + 1 := Heap.size_push ..
  show _ ∧ _
  rw [sz]
  have q : IsEnum ((s.heap.push o).push { cls := .type "enumerate", data := .fields #[.none, .bool false, .ref s.heap.objs.size, rawInt 0, .none, .none] }) (s.heap.objs.size + 1) s.heap.objs.size 0 .none := by
    have := Heap.get?_push_size (s.heap.push o) (o := { cls := .type "enumerate", data := .fields #[.none, .bool false, .ref s.heap.objs.size, rawInt 0, .none, .none] }) rfl
    rw [sz] at this
    exact this
  exact ⟨⟨_, q, rfl⟩, h _ q (Heap.get?_push_of_some _ (Heap.get?_push_size _ B.free)) fun b u x => Heap.get?_push_of_some _ (Heap.get?_push_of_some _ x)⟩
end
/-- the tuple at a, each item in a new pair with ws number -/
def IteT (K : PySem.W.Frag) (a : Addr) : It :=
  ⟨fun i H => ∃ (xs : List V) (x : V), SqT K H a xs ∧ xs[i]? = some x, fun i H v H' => ∃ T x, v = .ref T ∧ H T = none ∧ H' = upd H T (.tup [.int (i : Nat), x]) ∧ ∀ xs, SqT K H a xs → xs[i]? = some x, fun i H => ∃ xs : List V, SqT K H a xs ∧ xs.length ≤ i⟩
theorem turnEnumT {P : Program} {w : World} {K : PySem.W.Frag} {elts : List Expr} {kk : Nat} {tpos : Pos} (a e it : Addr) :
    Turn P w K (.Tuple elts kk tpos) (IteT K a) [e, it] e (fun i h => (∃ old, IsEnum h e it ((i : Nat) : Int) old) ∧ h.IsTupleIter it a i ∧ e ≠ it ∧ a ≠ it ∧ a ≠ e) where
  mem := List.mem_cons_self ..
  obj := fun i h st b hb => by
    obtain ⟨⟨old, he⟩, ⟨o, ho, _, hd⟩, _⟩ := st
    rcases (show b = e ∨ b = it by simpa using hb) with z | z
    · subst z; exact ⟨_, he, fun v q => nomatch q⟩
    · subst z; exact ⟨o, ho, fun v q => by rw [hd] at q; cases q⟩
  keep := fun i h h' st k => let ⟨⟨old, he⟩, hi, ne⟩ := st; ⟨⟨old, k e (by simp) _ he⟩, hi.at fun o q => k it (by simp) o q, ne⟩
  item := by
    intro X eP ew eK hc i pins s σ H E I hf st gg
    subst eP ew eK
    obtain ⟨⟨old, he⟩, hit, hne, hai, hae⟩ := st
    obtain ⟨xs, x, hq, hx⟩ := gg
    obtain ⟨ws, vr, p, gz⟩ := I.tuple hq
    obtain ⟨u, hu, ru⟩ := vr.get hx
    have hel : e < s.heap.objs.size := Heap.lt_size he
    have hil : it < s.heap.objs.size := by obtain ⟨_, q, _⟩ := hit; exact Heap.lt_size q
    have D := Draws.tuple (prog := X.prog) (w := X.w) (A := X.A.in1) (show X.A.in1.handled = none from I.ok.hd hc) it a hai ws.toArray
    have lt1 : i < ws.toArray.size := by have := (List.getElem?_eq_some_iff.mp hu).1; simpa using this
    refine wpAny_pyNext_enum_itemC D he ⟨hit, p⟩ lt1 hne (by intro z; rcases (show e = it ∨ e = a by simpa using z) with z | z; exact hne z; exact hae z.symm) fun u' h' tk hu' ho ⟨hit', _⟩ hT hsz hk => ?_
    have eu : u' = u := Option.some.inj (hu'.symm.trans (by simpa using hu))
    subst eu
    refine ⟨_, rfl, wpAny_letOwnedTupleGo_enum (s := { s with heap := h', toks := tk + 1 }) ho fun h'' he' sb => ?_⟩
    have hT2 : h''.get? s.heap.objs.size = some { cls := .type "tuple", data := .seq #[.int i tk, u'] } := (sb.2 _ (Nat.ne_of_gt hel)).trans hT
    have new : ObjOk X.prog X.w (upd H s.heap.objs.size (.tup [.int (i : Nat), x])) h'' s.heap.objs.size (.tup [.int (i : Nat), x]) := ⟨by show 2 ≤ sizeLine; decide, [.int i tk, u'], .cons ⟨_, rfl⟩ (.cons ru .nil), ⟨_, hT2, rfl, _, rfl⟩⟩
    have I1 : Inv X pins σ (upd H s.heap.objs.size (.tup [.int (i : Nat), x])) { s with heap := h'', toks := tk + 1 } :=
      I.turnedNew (ch := [e, it]) (fun b ob hb q => (sb.2 b (fun z => hb (by simp [z]))).trans (hk b ob (fun z => hb (by simp [z])) (fun z => hb (by simp [z])) q)) hf (Nat.le_refl _) new
    refine ⟨.ref s.heap.objs.size, _, I1, rfl, ⟨_, x, rfl, I.hok.fresh (Nat.le_refl _), rfl, fun ys hy => by rw [I.tuple_inj hy hq]; exact hx⟩, ⟨⟨u', ?_⟩, hit'.at fun o q => (sb.2 it (Ne.symm hne)).trans q, hne, hai, hae⟩, fun b hb => ?_⟩
    · rw [show ((i + 1 : Nat) : Int) = (i : Int) + 1 by omega]; exact he'
    · have lb : b < s.heap.objs.size := by
        rcases (show b = e ∨ b = it by simpa using hb) with z | z
        · subst z; exact hel
        · subst z; exact hil
      rw [upd_ne (Nat.ne_of_lt lb)]
      exact (hf b hb).1
  done := by
    intro X eP ew eK hc i pins s σ H E I hf st gg
    subst eP ew eK
    obtain ⟨⟨old, he⟩, hit, hne, hai, hae⟩ := st
    obtain ⟨xs, hq, hx⟩ := gg
    obtain ⟨ws, vr, p, gz⟩ := I.tuple hq
    obtain ⟨f0, f1, f2, f3, f4, f5⟩ := hf it (by simp)
    have hl := vr.length
    unfold pyNext
    have hT : s.TypeIs (.ref e) "enumerate" := ⟨_, he, rfl⟩
    refine wpAny_bind (wpAny_attempt (wpAny_callSpecial?_slot (name := Str.ofString "__next__") hT F.slot_enumerate_next (wpAny_call_entry F.slot_enumerate_next hT F.entry_enumerate_next ?_ (F.args_enumerate_next_1 _))))
    show wpAny _ _ (field (.ref e) 2 >>= _) _ _ _
    refine wpAny_bind (wpAny_field he rfl (x := .ref it) rfl ?_)
    refine wpAny_bind (wpAny_nextOf_tuple_end (show X.A.in1.handled = none from I.ok.hd hc) hit p (by simp; omega) fun h' x hk hx' => ?_)
    obtain ⟨o, ho, hcl⟩ := hx'
    refine wpAny_bind (wpAny_isInstance (T := "StopIteration") (b := true) ⟨o, ho, hcl⟩ isSubtype_stop ?_)
    exact wpAny_pure ⟨rfl, I.turned (t' := s.toks) (fun b o hb q => hk b o hb q) f0 f1 f3 f4 f5⟩
  self := fun A i s Q E st h => let ⟨⟨_, he⟩, _⟩ := st; wpAny_pyIter_enum he h
def iEnumT (K : PySem.W.Frag) (ta : TA) : TI := fun σ H R => ta σ H fun vs H1 => ∃ a xs, vs = [.ref a] ∧ SqT K H1 a xs ∧ R (IteT K a) H1
theorem pi_enumT {X : Cx} {e : Expr} {ta : TA} {p pos tpos : Pos} {elts : List Expr} {kk : Nat} (gg : Gl X "enumerate") (hm : X.mg "enumerate" = none) (ha : PA X [e] ta) (hs : starEach [e] X.env = [(false, eval e X.env)] := by rfl) :
    PI X (.Tuple elts kk tpos) (.Call (.Name "enumerate" p) [e] [] pos) (iEnumT X.K ta) := by
  refine ⟨fun pins s σ H R I h => ?_⟩
  refine Call_ (ld_blt I gg hm boot_enumerate (PyProof.Rows.callWith_type1 (thn (ha.run pos pins s σ H _ I h) fun us s1 ⟨vs, H1, I1, r1, a, xs, ex, hq, q⟩ => ?_) hs rfl))
  subst ex
  cases r1 with
  | cons r rest =>
    cases rest
    cases r
    obtain ⟨ws, vr, p', gz⟩ := I1.tuple hq
    obtain ⟨ot, hot, _⟩ := id p'
    have lt1 : a < s1.heap.objs.size := Heap.lt_size hot
    refine callEnumT (begins_tuple a ws.toArray) p' fun h' he hit hk => wpAny_pyIter_enum he ?_
    refine ⟨s1.heap.objs.size + 1, [s1.heap.objs.size + 1, s1.heap.objs.size], _, _, H1, rfl, I1.kept (t' := s1.toks) hk, turnEnumT a (s1.heap.objs.size + 1) s1.heap.objs.size,
      ⟨⟨.none, he⟩, ⟨_, hit, rfl, rfl⟩, Nat.succ_ne_self _, Nat.ne_of_lt lt1, Nat.ne_of_lt (Nat.lt_succ_of_lt lt1)⟩, fun b hb => ?_, q⟩
    have le1 : s1.heap.objs.size ≤ b := by
      rcases (show b = s1.heap.objs.size + 1 ∨ b = s1.heap.objs.size by simpa using hb) with z | z
      · rw [z]; exact Nat.le_add_right _ _
      · rw [z]; exact Nat.le_refl _
    exact I1.fpOk le1 (I1.hok.fresh le1)
theorem walk_enumT {K : PySem.W.Frag} {a : Addr} {xs : List V} : Walk (IteT K a) xs.length (fun H => SqT K H a xs) (YPair (fun i => some (.int (i : Nat))) (fun i => xs[i]?)) := by
  refine ⟨fun i _ hi q => ⟨xs, xs[i], q, by simp [hi]⟩, fun _ q => ⟨xs, q, Nat.le_refl _⟩, fun i H v H' _ q y => ?_⟩
  obtain ⟨T, x, e1, e2, e3, e4⟩ := y
  exact ⟨T, .int (i : Nat), x, e1, e2, e3, rfl, e4 xs q⟩

/-! ### zip(l, t), l a list, t a tuple -/
theorem apart_add (N : Nat) {i j : Nat} (h : i ≠ j) : N + i ≠ N + j := by omega
theorem apart_add0 (N : Nat) {j : Nat} (h : 0 ≠ j) : N ≠ N + j := by omega
theorem apart_add1 (N : Nat) {j : Nat} (h : j ≠ 0) : N + j ≠ N := by omega
def ItzM (K : PySem.W.Frag) (a b : Addr) : It :=
  ⟨fun i H => ∃ (xs ys : List V) (x y : V), SqL K H a xs ∧ SqT K H b ys ∧ xs[i]? = some x ∧ ys[i]? = some y,
    fun i H v H' => ∃ T x y, v = .ref T ∧ H T = none ∧ H' = upd H T (.tup [x, y]) ∧ (∀ xs, SqL K H a xs → xs[i]? = some x) ∧ ∀ ys, SqT K H b ys → ys[i]? = some y,
    fun i H => ∃ xs ys : List V, SqL K H a xs ∧ SqT K H b ys ∧ i ≤ xs.length ∧ i ≤ ys.length ∧ (xs.length = i ∨ ys.length = i)⟩
theorem turnZipM {P : Program} {w : World} {K : PySem.W.Frag} {elts : List Expr} {kk : Nat} {tpos : Pos} {a b N : Addr} (ha : a < N) (hb : b < N) :
    Turn P w K (.Tuple elts kk tpos) (ItzM K a b) [N + 4, N + 2, N + 3, N, N + 1] (N + 4) (fun i h => IsZip h (N + 4) (N + 2) (N + 3) .none ∧ IsTupOf2 h (N + 2) (.ref N) (.ref (N + 1)) ∧ (∃ x y, IsTupOf2 h (N + 3) x y) ∧ h.IsListIter N a i ∧ h.IsTupleIter (N + 1) b i) where
  mem := List.mem_cons_self ..
  obj := fun i h st c hc => by
    obtain ⟨gz, gI, ⟨x, y, gO⟩, ⟨o1, e1, _, d1⟩, ⟨o2, e2, _, d2⟩⟩ := st
    rcases (show c = N + 4 ∨ c = N + 2 ∨ c = N + 3 ∨ c = N ∨ c = N + 1 by simpa using hc) with q | q | q | q | q
    · subst q; exact ⟨_, gz, fun v q => nomatch q⟩
    · subst q; exact ⟨_, gI, fun v q => nomatch q⟩
    · subst q; exact ⟨_, gO, fun v q => nomatch q⟩
    · subst q; exact ⟨o1, e1, fun v q => by rw [d1] at q; cases q⟩
    · subst q; exact ⟨o2, e2, fun v q => by rw [d2] at q; cases q⟩
  keep := fun i h h' st k => by
    obtain ⟨gz, gI, ⟨x, y, gO⟩, h1, h2⟩ := st
    exact ⟨k _ (by simp) _ gz, k _ (by simp) _ gI, ⟨x, y, k _ (by simp) _ gO⟩, h1.at fun o q => k N (by simp) o q, h2.at fun o q => k (N + 1) (by simp) o q⟩
  item := by
    intro X eP ew eK hc i pins s σ H E I hf st gg
    subst eP ew eK
    obtain ⟨gz, gI, ⟨x0, y0, gO⟩, h1, h2⟩ := st
    obtain ⟨xs, ys, x, y, kx, ky, hx, hy⟩ := gg
    obtain ⟨ws, vr, p, _⟩ := I.list kx
    obtain ⟨ws2, vr2, p2, _⟩ := I.tuple ky
    obtain ⟨u, hu, ru⟩ := vr.get hx
    obtain ⟨u2, hu2, ru2⟩ := vr2.get hy
    have hzl : (N + 4 : Nat) < s.heap.objs.size := Heap.lt_size gz
    have hh : X.A.in1.handled = none := I.ok.hd hc
    have D1 := Draws.list (prog := X.prog) (w := X.w) (A := X.A.in1) hh N a (Nat.ne_of_lt ha) ws.toArray
    have D2 := Draws.tuple (prog := X.prog) (w := X.w) (A := X.A.in1) hh (N + 1) b (Nat.ne_of_lt (Nat.lt_succ_of_lt hb)) ws2.toArray
    have S := zip_sep2 (N := N) (fp1 := [a]) (fp2 := [b]) (fun c hc => by rw [List.mem_singleton.mp hc]; exact ha) (fun c hc => by rw [List.mem_singleton.mp hc]; exact hb)
    have l1 : i < ws.toArray.size := by have := (List.getElem?_eq_some_iff.mp hu).1; simpa using this
    have l2 : i < ws2.toArray.size := by have := (List.getElem?_eq_some_iff.mp hu2).1; simpa using this
    refine wpAny_pyNext_zipD2_item S D1 D2 gz gI gO ⟨h1, p.isList⟩ ⟨h2, p2⟩ l1 l2 fun v1 v2 h' tk e1 e2 z' TO' ⟨h1', _⟩ ⟨h2', _⟩ hT hsz hk => ?_
    have eu : v1 = u := Option.some.inj (e1.symm.trans (by simpa using hu))
    have eu2 : v2 = u2 := Option.some.inj (e2.symm.trans (by simpa using hu2))
    subst eu eu2
    refine ⟨_, rfl, wpAny_letOwnedTupleGo_zip (s := { s with heap := h', toks := tk }) z' fun h'' z'' sb => ?_⟩
    have hT2 : h''.get? s.heap.objs.size = some { cls := .type "tuple", data := .seq #[v1, v2] } := (sb.2 _ (Nat.ne_of_gt hzl)).trans hT
    have new : ObjOk X.prog X.w (upd H s.heap.objs.size (.tup [x, y])) h'' s.heap.objs.size (.tup [x, y]) := ⟨by show 2 ≤ sizeLine; decide, [v1, v2], .cons ru (.cons ru2 .nil), ⟨_, hT2, rfl, _, rfl⟩⟩
    have I1 : Inv X pins σ (upd H s.heap.objs.size (.tup [x, y])) { s with heap := h'', toks := tk } :=
      I.turnedNew (ch := [N + 4, N + 2, N + 3, N, N + 1]) (fun c o hb q => (sb.2 c (fun q' => hb (by simp [q']))).trans (hk c o (fun q' => hb (by simp [q'])) (fun q' => hb (by simp [q'])) (fun q' => hb (by simp [q'])) (fun q' => hb (by simp [q'])) q)) hf (Nat.le_refl _) new
    refine ⟨.ref s.heap.objs.size, _, I1, rfl, ⟨_, x, y, rfl, I.hok.fresh (Nat.le_refl _), rfl, fun l hl => by rw [I.list_inj hl kx]; exact hx, fun l hl => by rw [I.tuple_inj hl ky]; exact hy⟩, ⟨z'', ?_, ⟨v1, v2, ?_⟩, ?_, ?_⟩, fun c hcm => ?_⟩
    · exact (sb.2 _ (apart_add N (i := 2) (j := 4) (by decide))).trans (hk _ _ (apart_add N (i := 2) (j := 4) (by decide)) (apart_add N (i := 2) (j := 3) (by decide)) (apart_add1 N (j := 2) (by decide)) (apart_add N (i := 2) (j := 1) (by decide)) gI)
    · exact (sb.2 _ (apart_add N (i := 3) (j := 4) (by decide))).trans TO'
    · exact h1'.at fun o q => (sb.2 _ (apart_add0 N (j := 4) (by decide))).trans q
    · exact h2'.at fun o q => (sb.2 _ (apart_add N (i := 1) (j := 4) (by decide))).trans q
    · have lt1 : c < s.heap.objs.size := by
        rcases (show c = N + 4 ∨ c = N + 2 ∨ c = N + 3 ∨ c = N ∨ c = N + 1 by simpa using hcm) with q | q | q | q | q
        · subst q; exact hzl
        · subst q; exact Heap.lt_size gI
        · subst q; exact Heap.lt_size gO
        · subst q; obtain ⟨_, e1, _⟩ := h1; exact Heap.lt_size e1
        · subst q; obtain ⟨_, e2, _⟩ := h2; exact Heap.lt_size e2
      rw [upd_ne (Nat.ne_of_lt lt1)]
      exact (hf c hcm).1
  done := by
    intro X eP ew eK hc i pins s σ H E I hf st gg
    subst eP ew eK
    obtain ⟨gz, gI, ⟨x0, y0, gO⟩, h1, h2⟩ := st
    obtain ⟨xs, ys, kx, ky, hx, hy, hend⟩ := gg
    obtain ⟨ws, vr, p, _⟩ := I.list kx
    obtain ⟨ws2, vr2, p2, _⟩ := I.tuple ky
    have q1 := vr.length
    have q2 := vr2.length
    have hh : X.A.in1.handled = none := I.ok.hd hc
    have D1 := Draws.list (prog := X.prog) (w := X.w) (A := X.A.in1) hh N a (Nat.ne_of_lt ha) ws.toArray
    have D2 := Draws.tuple (prog := X.prog) (w := X.w) (A := X.A.in1) hh (N + 1) b (Nat.ne_of_lt (Nat.lt_succ_of_lt hb)) ws2.toArray
    have S := zip_sep2 (N := N) (fp1 := [a]) (fp2 := [b]) (fun c hc => by rw [List.mem_singleton.mp hc]; exact ha) (fun c hc => by rw [List.mem_singleton.mp hc]; exact hb)
    have z1 : ws.toArray.size = xs.length := by simp; omega
    have z2 : ws2.toArray.size = ys.length := by simp; omega
    refine wpAny_pyNext_zipD2_end S D1 D2 gz gI gO ⟨h1, p.isList⟩ ⟨h2, p2⟩ (by omega) (by omega) (by omega) fun h' tk hk => ⟨rfl, I.turnedL (ch := [N + 4, N + 2, N + 3, N, N + 1]) (fun c o hb q =>
      hk c o (fun q' => hb (by simp [q'])) (fun q' => hb (by simp [q'])) (fun q' => hb (by simp [q'])) (fun q' => hb (by simp [q'])) q) hf⟩
  self := fun A i s Q E st h => wpAny_pyIter_zip st.1 h
def iZipM (K : PySem.W.Frag) (ta : TA) : TI := fun σ H R => ta σ H fun vs H1 => ∃ a b xs ys, vs = [.ref a, .ref b] ∧ SqL K H1 a xs ∧ SqT K H1 b ys ∧ R (ItzM K a b) H1
theorem pi_zipM {X : Cx} {e e2 : Expr} {ta : TA} {p pos tpos : Pos} {elts : List Expr} {kk : Nat} (gg : Gl X "zip") (hm : X.mg "zip" = none) (ha : PA X [e, e2] ta)
    (hs : starEach [e, e2] X.env = (false, eval e X.env) :: starEach [e2] X.env := by rfl) (hpl : (backTo pos (starEach [e2] X.env)).any (·.1) = false := by rfl) :
    PI X (.Tuple elts kk tpos) (.Call (.Name "zip" p) [e, e2] [] pos) (iZipM X.K ta) := by
  refine ⟨fun pins s σ H R I h => ?_⟩
  refine Call_ (ld_blt I gg hm PyProof.Rows.boot_zip (PyProof.Rows.callWith_type1 (thn (ha.run pos pins s σ H _ I h) fun us s1 ⟨vs, H1, I1, r1, a, b, xs, ys, ex, kx, ky, q⟩ => ?_) hs hpl))
  subst ex
  cases r1 with
  | cons r rest =>
    cases rest with
    | cons r' rest =>
      cases rest
      cases r
      cases r'
      obtain ⟨ws, vr, p1, _⟩ := I1.list kx
      obtain ⟨ws2, vr2, p2, _⟩ := I1.tuple ky
      obtain ⟨o2, ho2, _⟩ := id p2
      refine zip_begins2 (begins_list a ws.toArray) (begins_tuple b ws2.toArray) p1.isList p2 fun h' gz gI gO h1 h2 hsz hk => wpAny_pyIter_zip gz ?_
      refine ⟨s1.heap.objs.size + 4, _, _, _, H1, rfl, I1.kept (t' := s1.toks) hk, turnZipM p1.lt (Heap.lt_size ho2), ⟨gz, gI, ⟨_, _, gO⟩, ⟨_, h1, rfl, rfl⟩, ⟨_, h2, rfl, rfl⟩⟩, fun c hcm => ?_, q⟩
      have le1 : s1.heap.objs.size ≤ c := by
        rcases (show c = s1.heap.objs.size + 4 ∨ c = s1.heap.objs.size + 2 ∨ c = s1.heap.objs.size + 3 ∨ c = s1.heap.objs.size ∨ c = s1.heap.objs.size + 1 by simpa using hcm) with z | z | z | z | z
        · rw [z]; exact Nat.le_add_right _ _
        · rw [z]; exact Nat.le_add_right _ _
        · rw [z]; exact Nat.le_add_right _ _
        · rw [z]; exact Nat.le_refl _
        · rw [z]; exact Nat.le_add_right _ _
      exact I1.fpOk le1 (I1.hok.fresh le1)
theorem walk_zipM {K : PySem.W.Frag} {a b : Addr} {xs ys : List V} (hn : xs.length = ys.length) : Walk (ItzM K a b) xs.length (fun H => SqL K H a xs ∧ SqT K H b ys) (YPair (fun i => xs[i]?) (fun i => ys[i]?)) := by
  refine ⟨fun i _ hi q => ?_, fun _ q => ⟨xs, ys, q.1, q.2, Nat.le_refl _, Nat.le_of_eq hn, .inl rfl⟩, fun i H v H' _ q y => ?_⟩
  · have h2 : i < ys.length := by omega
    exact ⟨xs, ys, xs[i], ys[i], q.1, q.2, by simp [hi], by simp [h2]⟩
  · obtain ⟨T, x, z, e1, e2, e3, e4, e5⟩ := y
    exact ⟨T, x, z, e1, e2, e3, e4 xs q.1, e5 ys q.2⟩
end Ly
end
section
set_option Elab.async false
set_option linter.all false
set_option maxRecDepth 100000
/-! The words: mirrors and promises. -/
namespace Ly
open PySem PySem.Spec PyProof.Rows L2

/-! ### small things -/
theorem nd_of {α : Type} {p q : α} : True := trivial
/-- the names of Python that nothing here hides -/
structure Bt (mg : Str → Option Value) : Prop where
  isi : mg "isinstance" = none
  len : mg "len" = none
  str : mg "str" = none
  int : mg "int" = none
  all : mg "all" = none
  any : mg "any" = none
  zip : mg "zip" = none
  enum : mg "enumerate" = none
  list : mg "list" = none
  tuple : mg "tuple" = none
  sorted : mg "sorted" = none
  set : mg "set" = none
  max : mg "max" = none
  min : mg "min" = none
  range : mg "range" = none
  abs : mg "abs" = none
  repr : mg "repr" = none
theorem same_new {H : Hp} {p : Addr} {o : HO} (h : H p = none) : Same H (upd H p o) := fun b u e => by
  rw [upd_ne (ne_of_none e h)]; exact e
theorem same_t {K : PySem.W.Frag} {H H' : Hp} {a : Addr} {xs : List V} (e : Same H H') (h : SqT K H a xs) : SqT K H' a xs := by
  rcases h with (h | ⟨o, h⟩) | h
  · exact .inl (.inl (e _ _ h))
  · exact .inl (.inr ⟨o, e _ _ h⟩)
  · exact .inr h
/-- a new list at D grows: what was stays -/
theorem same_grow {H H' : Hp} {D : Addr} {o : HO} (n : H D = none) (s : Same H H') : Same H (upd H' D o) := fun b u e => by
  rw [upd_ne (ne_of_none e n)]; exact s b u e

section
variable {X : Cx} {x : Str} {pos p : Pos} {a : Addr} {i : Int} {t : Tok} {z : Str} {e : Expr} {es : List Expr} {ta : TA} {te : TE}
theorem pgR (hm : X.mg x = some (.ref a)) (hg : Gl X x := by rfl) (hd : (x == ("__debug__" : Str)) = false := by decide) : PE X (.Name x pos) (tC (.ref a)) := pe_glob hg hm rfl hd
theorem pgI (hm : X.mg x = some (.int i t)) (hg : Gl X x := by rfl) (hd : (x == ("__debug__" : Str)) = false := by decide) : PE X (.Name x pos) (tC (.int i)) := pe_glob hg hm ⟨_, rfl⟩ hd
theorem pgS (hm : X.mg x = some (.str z t)) (hg : Gl X x := by rfl) (hd : (x == ("__debug__" : Str)) = false := by decide) : PE X (.Name x pos) (tC (.str z)) := pe_glob hg hm ⟨_, rfl⟩ hd
theorem pStr (hm : X.mg "str" = none) (hg : Gl X "str" := by rfl) : PE X (.Name "str" pos) (tC (.ty "str")) := pe_bltn hg hm PyProof.Rows.boot_str rfl
theorem pIsi (hm : X.mg "isinstance" = none) (ha : PA X (e :: es) ta) (hg : Gl X "isinstance" := by rfl)
    (he : starEach (e :: es) X.env = (false, eval e X.env) :: starEach es X.env := by rfl) (hpl : (backTo pos (starEach es X.env)).any (·.1) = false := by rfl) : PE X (.Call (.Name "isinstance" p) (e :: es) [] pos) (tCB RZ.rIsTy ta) :=
  pe_callB RZ.call_isTy hg hm PyProof.Rows.boot_isinstance ha (by decide) (by decide) he hpl
theorem pLenQ (hm : X.mg "len" = none) (he' : PE X e te) (hg : Gl X "len" := by rfl)
    (he : starEach [e] X.env = (false, eval e X.env) :: starEach [] X.env := by rfl) : PE X (.Call (.Name "len" p) [e] [] pos) (tCB (fun xs H Q => ∃ p ys, xs = [.ref p] ∧ (SqL X.K H p ys ∨ SqT X.K H p ys) ∧ Q (.int ys.length) H) (tCons te tNil)) :=
  pe_callB call_len_seq hg hm PySem.boot_len (pa_cons he' pa_nil he) (by decide) (by decide) he
theorem pLenS (hm : X.mg "len" = none) (he' : PE X e te) (hg : Gl X "len" := by rfl)
    (he : starEach [e] X.env = (false, eval e X.env) :: starEach [] X.env := by rfl) : PE X (.Call (.Name "len" p) [e] [] pos) (tCB (fun xs H Q => ∃ z : Str, xs = [.str z] ∧ z.length ≤ sizeLine ∧ Q (.int z.length) H) (tCons te tNil)) :=
  pe_callB call_len_str hg hm PySem.boot_len (pa_cons he' pa_nil he) (by decide) (by decide) he
end

theorem iteT' {c : Bool} {A B : Prop} (h : c = true) (a : A) : if c = true then A else B := by rw [if_pos h]; exact a
theorem iteF' {c : Bool} {A B : Prop} (h : c = false) (b : B) : if c = true then A else B := by rw [h]; exact iteF b
theorem tYes_of {σ : L2.St} {H : Hp} {Q : Bool → Hp → Prop} (h : Q true H) : tYes σ H Q := h
/-- what stands behind a statement, said once for all its ways -/
theorem seq_cut {t u : TS} {D : Ends} {σ : L2.St} {H : Hp} (R : L2.St → Hp → Prop) (h : ∀ N : L2.St → Hp → Prop, (∀ σ' H', R σ' H' → N σ' H') → t { D with nx := N } σ H) (hn : ∀ σ' H', R σ' H' → u D σ' H') : tSeq t u D σ H := h (u D) hn
theorem nx_of {i : Nat} {x : V} {σ : L2.St} {H : Hp} {N : L2.St → Hp → Prop} (h : N (σ.set i (some x)) H) : gName i x σ H N := h
theorem nx_mk {N bk ct : L2.St → Hp → Prop} {rt : VK} {σ : L2.St} {H : Hp} (h : N σ H) : Ends.nx (Ends.mk N rt bk ct) σ H := h
/-! ### mirrors -/
def wordsL : List Str := ["say", "pause", "wait", "open", "begin", "fail", "give", "repeat", "guard", "late", "mend", "end", "each", "job", "walk", "closed", "dropped", "kept"]
def howsL : List Str := ["closed", "dropped", "kept"]
def leS (a b : Str) : Bool := !decide (b.cps.toList < a.cps.toList)
def signOk (c : Nat) : Bool := leS "a" ⟨#[c]⟩ && leS ⟨#[c]⟩ "z"
def isName (z : Str) : Bool := decide (1 ≤ z.length) && decide (z.length ≤ 8) && !(wordsL.any (· == z)) && z.cps.toList.all signOk
def isHow (z : Str) : Bool := howsL.any (· == z)
def isFigure (z : Str) : Bool := (z.length == 1) && leS "1" z && leS z "9"
def ofSort (z sort : Str) : Bool := if sort = "name" then isName z else if sort = "how" then isHow z else isFigure z
theorem inV_strs (z : Str) (ws : List Str) : inV (.str z) (ws.map V.str) = ws.any (· == z) := by
  unfold inV
  rw [List.any_map]
  rfl
theorem flat_str (ws : List Str) : (ws.map V.str).all flatV = true := by
  rw [List.all_map, List.all_eq_true]
  intro x _
  rfl

def formsL : List (Str × List Str) := [("say", ["name"]), ("pause", []), ("wait", ["name"]), ("open", ["name"]), ("begin", ["name"]), ("fail", ["name"]), ("give", []), ("repeat", ["figure"]), ("guard", []), ("late", []), ("mend", []), ("end", []), ("each", ["name", "how"]), ("job", ["name"]), ("walk", ["name"])]
def formOf (z : Str) : Option (List Str) := (formsL.find? fun p => decide (p.1 = z)).map (·.2)
def eachL : List Str := ["name", "how", "figure"]
def formFor (w : Str) (n : Nat) : Option (List Str) := (formOf w).map fun f => if w = "each" ∧ n = 4 then eachL else f
def hasForm (ps : List Str) : Bool := match formFor (ps.headD "") ps.length with
  | none => false
  | some f => (ps.length == f.length + 1) && (ps.tail.zip f).all fun q => ofSort q.1 q.2
/-! ### what the top has written -/
/-- module constants: the tuples of words -/
structure Wd (K : PySem.W.Frag) (mg : Str → Option Value) : Prop where
  words : ∃ a, mg "WORDS" = some (.ref a) ∧ ∀ H, SqT K H a (wordsL.map V.str)
  hows : ∃ a, mg "HOWS" = some (.ref a) ∧ ∀ H, SqT K H a (howsL.map V.str)
  long : ∃ t, mg "_LONGEST_WORD" = some (.int 8 t)

section
variable {P : Program} {w : World} {K : PySem.W.Frag} {mg : Str → Option Value} {base : Heap}

/-! ### is_name -/
def spIsName : Sp := fun vs H Q _ => ∃ z : Str, vs = [.str z] ∧ z.length ≤ 100000 ∧ ∀ H', Same H H' → Q (.bl (isName z)) H'
theorem sc_is_name : FnScope ["value", "sign"] ["value"] (defScope t_is_name) := ⟨rfl, rfl, rfl, by decide +kernel, rfl, by decide +kernel, by decide +kernel⟩
theorem ok_is_name {f : Addr} {fd : FuncData} (F : Fun K "is_name" "is_name" t_is_name f fd) (B : Bt mg) (W : Wd K mg) : FnOk P w K mg base CX0 1 f fd ["value"] spIsName := by
  refine F.ok sc_is_name (fun vs H Q E h => ?_) (fun cdv A outer s H vs Q E hr h => ?_)
  · obtain ⟨z, rfl, _⟩ := h
    rfl
  · obtain ⟨z, rfl, hz, k⟩ := h
    obtain ⟨aW, hW, qW⟩ := W.words
    obtain ⟨tL, hL⟩ := W.long
    have nd := sc_is_name.nd
    refine ⟨_, pss_cons (ps_if (PW.pt (pw_or (pt_not (pt_val (pIsi B.isi (pa_cons (pv 0) (pa_cons (pStr B.str) pa_nil)))))
        (pw_or1 (pt_not (pt_chain op_le op_le pe_int (pLenS B.len (pv 0)) (pgI hL)))))) (pss_one (ps_ret pe_bl)) pss_nil)
      (pss_one (ps_ret (pe_and (pe_cmpR op_notIn_seq (pv 0) (pgR hW) (by rfl)) (pe_one (pe_callB (cr_all rfl) (by rfl) B.all (by decide +kernel)
        (pa_cons (pe_lc (own := [("sign", 1)]) (g := gName 1) (tt := tYes) (by rfl) nd (pi_str (pv 0)) (blkOk_by (own := [("sign", 1)]) (N := ["value", "sign"]) (sc := defScope t_is_name) (by decide +kernel)) (fun _ _ _ _ _ => pg_name (i := 1) nd rfl (Or.inl rfl)) (fun _ _ _ _ _ => pts_nil)
          (fun _ _ _ _ _ => pe_chain op_le_str op_le_str pe_str (pv 1) pe_str)) pa_nil)))))), ?_⟩
    have hz' : z.length ≤ sizeLine := Nat.le_trans hz (by decide)
    refine ⟨_, rfl, _, _, rfl, .str z, true, rfl, iteF ?_⟩
    refine ⟨_, rfl, z, rfl, hz', _, _, rfl, rfl, _, rfl, ?_⟩
    by_cases h1 : 1 ≤ z.length
    · refine iteT' (decide_eq_true (by omega)) ?_
      refine ⟨_, _, rfl, rfl, _, rfl, ?_⟩
      by_cases h2 : z.length ≤ 8
      · refine iteF' (by rw [decide_eq_true (show (z.length : Int) ≤ 8 by omega)]; rfl) ?_
        refine ⟨_, rfl, _, _, rfl, .inr (qW H), rfl, flat_str _, _, rfl, ?_⟩
        by_cases h3 : inV (.str z) (wordsL.map V.str) = true
        · refine iteF' (by rw [h3]; rfl) ?_
          have e : isName z = false := by
            unfold isName
            rw [← inV_strs, h3]
            simp
          rw [e] at k
          exact k H (Same.refl H)
        · have h3' : inV (.str z) (wordsL.map V.str) = false := by simpa using h3
          refine iteT' (by rw [h3']; rfl) ?_
          refine ⟨_, rfl, z, rfl, fun D hD => lc_it walk_str (fun i H' => H' = upd H D (.lst ((z.cps.toList.take i).map fun c => V.bl (signOk c)))) rfl (fun _ _ _ _ => trivial) ?_ ?_⟩
          · rintro i x H1 H1' hi rfl ⟨rfl, c, hc, rfl⟩
            refine ⟨rfl, tYes_of ?_⟩
            refine iteT ?_
            have hct : z.cps.toList[i]? = some c := by rw [Array.getElem?_toList]; exact hc
            have fin : ∃ acc, upd H D (.lst ((z.cps.toList.take i).map fun c => V.bl (signOk c))) D = some (.lst acc) ∧ acc.length < sizeLine ∧ upd (upd H D (.lst ((z.cps.toList.take i).map fun c => V.bl (signOk c)))) D (.lst (acc ++ [V.bl (signOk c)])) = upd H D (.lst ((z.cps.toList.take (i + 1)).map fun c => V.bl (signOk c))) := by
              refine ⟨_, upd_same, ?_, ?_⟩
              · rw [List.length_map, List.length_take]
                exact Nat.lt_of_le_of_lt (Nat.min_le_right _ _) (Nat.lt_of_le_of_lt (show z.cps.toList.length ≤ 100000 from hz) (by decide))
              · rw [upd_upd, List.take_succ, hct, List.map_append]
                rfl
            refine ⟨_, rfl, _, _, rfl, rfl, _, rfl, ?_⟩
            by_cases h4 : leS "a" ⟨#[c]⟩ = true
            · refine iteT' h4 ?_
              refine ⟨_, _, rfl, rfl, ?_⟩
              have e : signOk c = leS ⟨#[c]⟩ "z" := by unfold signOk; rw [h4]; rfl
              rw [e] at fin
              exact fin
            · refine iteF' (Bool.eq_false_iff.mpr h4) ?_
              have e : signOk c = false := by
                unfold signOk
                rw [show leS "a" ⟨#[c]⟩ = false by simpa using h4]; rfl
              rw [e] at fin
              exact fin
          · rintro H1 rfl
            have el : z.cps.toList.take z.cps.size = z.cps.toList := List.take_of_length_le (Nat.le_of_eq (by simp))
            rw [el]
            refine ⟨D, z.cps.toList.map signOk, rfl, SqL.of (by rw [upd_same, List.map_map]; rfl), ?_⟩
            have e : isName z = (z.cps.toList.map signOk).all id := by
              unfold isName
              rw [← inV_strs, h3', decide_eq_true h1, decide_eq_true h2, List.all_map]
              rfl
            rw [e] at k
            exact k _ (same_new hD)
      · refine iteT' (by rw [decide_eq_false (show ¬ (z.length : Int) ≤ 8 by omega)]; rfl) ?_
        have e : isName z = false := by
          unfold isName
          rw [decide_eq_false h2]
          simp
        rw [e] at k
        exact k H (Same.refl H)
    · refine iteF' (decide_eq_false (by omega)) ⟨false, rfl, iteT ?_⟩
      have e : isName z = false := by
        unfold isName
        rw [decide_eq_false h1]
        simp
      rw [e] at k
      exact k H (Same.refl H)

/-! ### is_how, _is_figure, _is_of_sort -/
def spIsHow : Sp := fun vs H Q _ => ∃ z : Str, vs = [.str z] ∧ ∀ H', Same H H' → Q (.bl (isHow z)) H'
theorem sc_is_how : FnScope ["value"] ["value"] (defScope t_is_how) := ⟨rfl, rfl, rfl, by decide +kernel, rfl, by decide +kernel, by decide +kernel⟩
theorem ok_is_how {f : Addr} {fd : FuncData} (F : Fun K "is_how" "is_how" t_is_how f fd) (B : Bt mg) (W : Wd K mg) : FnOk P w K mg base CX0 1 f fd ["value"] spIsHow := by
  refine F.ok sc_is_how (fun vs H Q E h => ?_) (fun cdv A outer s H vs Q E hr h => ?_)
  · obtain ⟨z, rfl, _⟩ := h
    rfl
  · obtain ⟨z, rfl, k⟩ := h
    obtain ⟨aW, hW, qW⟩ := W.hows
    refine ⟨_, pss_one (ps_ret (pe_and (pIsi B.isi (pa_cons (pv 0) (pa_cons (pStr B.str) pa_nil))) (pe_one (pe_cmpR op_in_seq (pv 0) (pgR hW) (by rfl))))), ?_⟩
    refine ⟨_, rfl, _, _, rfl, .str z, true, rfl, iteT ?_⟩
    refine ⟨_, rfl, _, _, rfl, .inr (qW H), rfl, flat_str _, ?_⟩
    rw [inV_strs]
    exact k H (Same.refl H)
def spIsFigure : Sp := fun vs H Q _ => ∃ z : Str, vs = [.str z] ∧ z.length ≤ 100000 ∧ ∀ H', Same H H' → Q (.bl (isFigure z)) H'
theorem sc_is_figure : FnScope ["part"] ["part"] (defScope t_is_figure) := ⟨rfl, rfl, rfl, by decide +kernel, rfl, by decide +kernel, by decide +kernel⟩
theorem ok_is_figure {f : Addr} {fd : FuncData} (F : Fun K "_is_figure" "_is_figure" t_is_figure f fd) (B : Bt mg) : FnOk P w K mg base CX0 1 f fd ["part"] spIsFigure := by
  refine F.ok sc_is_figure (fun vs H Q E h => ?_) (fun cdv A outer s H vs Q E hr h => ?_)
  · obtain ⟨z, rfl, _⟩ := h
    rfl
  · obtain ⟨z, rfl, hz, k⟩ := h
    have k := k H (Same.refl H)
    have hz' : z.length ≤ sizeLine := Nat.le_trans hz (by decide)
    refine ⟨_, pss_one (ps_ret (pe_and (pe_cmpR op_eq (pLenS B.len (pv 0)) pe_int (nomark _)) (pe_one (pe_chain op_le_str op_le_str pe_str (pv 0) pe_str)))), ?_⟩
    refine ⟨_, rfl, z, rfl, hz', rfl, _, rfl, ?_⟩
    by_cases h1 : z.length = 1
    · refine iteT' (decide_eq_true (by rw [h1]; rfl)) ?_
      refine ⟨_, rfl, _, _, rfl, rfl, _, rfl, ?_⟩
      by_cases h2 : leS "1" z = true
      · refine iteT' h2 ⟨_, _, rfl, rfl, ?_⟩
        have e : isFigure z = leS z "9" := by unfold isFigure; rw [h2, h1]; rfl
        rw [e] at k
        exact k
      · refine iteF' (Bool.eq_false_iff.mpr h2) ?_
        have e : isFigure z = false := by unfold isFigure; rw [Bool.eq_false_iff.mpr h2, h1]; rfl
        rw [e] at k
        exact k
    · refine iteF' (decide_eq_false fun q => h1 (by have := V.int.inj q; omega)) ?_
      have e : isFigure z = false := by
        unfold isFigure
        rw [show (z.length == 1) = false by simpa using h1]; rfl
      rw [e] at k
      exact k
def spOfSort : Sp := fun vs H Q _ => ∃ z sort : Str, vs = [.str z, .str sort] ∧ z.length ≤ 100000 ∧ ∀ H', Same H H' → Q (.bl (ofSort z sort)) H'
theorem sc_of_sort : FnScope ["part", "sort"] ["part", "sort"] (defScope t_is_of_sort) := ⟨rfl, rfl, rfl, by decide +kernel, rfl, by decide +kernel, by decide +kernel⟩
/-- a def that is called by its name -/
structure At (K : PySem.W.Frag) (mg : Str → Option Value) (x : Str) (f : Addr) (fd : FuncData) (ps : List Str) : Prop where
  g : mg x = some (.ref f)
  b : Binds K fd ps []
theorem ok_of_sort {f f1 f2 f3 : Addr} {fd fd1 fd2 fd3 : FuncData} (F : Fun K "_is_of_sort" "_is_of_sort" t_is_of_sort f fd)
    (G1 : FnOk P w K mg base CX0 1 f1 fd1 ["value"] spIsName) (A1 : At K mg "is_name" f1 fd1 ["value"]) (k1 : PySem.W.keepIn K (.ref f1) = true)
    (G2 : FnOk P w K mg base CX0 1 f2 fd2 ["value"] spIsHow) (A2 : At K mg "is_how" f2 fd2 ["value"]) (k2 : PySem.W.keepIn K (.ref f2) = true)
    (G3 : FnOk P w K mg base CX0 1 f3 fd3 ["part"] spIsFigure) (A3 : At K mg "_is_figure" f3 fd3 ["part"]) (k3 : PySem.W.keepIn K (.ref f3) = true) : FnOk P w K mg base CX0 2 f fd ["part", "sort"] spOfSort := by
  refine F.ok sc_of_sort (fun vs H Q E h => ?_) (fun cdv A outer s H vs Q E hr h => ?_)
  · obtain ⟨z, so, rfl, _⟩ := h
    rfl
  · obtain ⟨z, so, rfl, hz, k⟩ := h
    refine ⟨_, pss_cons (ps_if (pt_cmpR op_eq (pv 1) pe_str (nomark _)) (pss_one (ps_ret (pe_call G1 hr rfl A1.g k1 A1.b .nil pass0 (pa_cons (pv 0) pa_nil)))) pss_nil)
      (pss_cons (ps_if (pt_cmpR op_eq (pv 1) pe_str (nomark _)) (pss_one (ps_ret (pe_call G2 hr rfl A2.g k2 A2.b .nil pass0 (pa_cons (pv 0) pa_nil)))) pss_nil)
      (pss_one (ps_ret (pe_call G3 hr rfl A3.g k3 A3.b .nil pass0 (pa_cons (pv 0) pa_nil))))), ?_⟩
    refine ⟨_, rfl, rfl, _, rfl, ?_⟩
    have k0 : ∀ b, b = ofSort z so → ∀ H', Same H H' → Q (.bl b) H' := fun b e H' s => by rw [e]; exact k H' s
    by_cases h1 : so = "name"
    · refine iteT' (decide_eq_true (by rw [h1])) ?_
      exact ⟨_, rfl, z, rfl, hz, k0 _ (by unfold ofSort; rw [if_pos h1])⟩
    · refine iteF' (decide_eq_false fun q => h1 (V.str.inj q)) ?_
      refine ⟨_, rfl, rfl, _, rfl, ?_⟩
      by_cases h2 : so = "how"
      · refine iteT' (decide_eq_true (by rw [h2])) ?_
        exact ⟨_, rfl, z, rfl, k0 _ (by unfold ofSort; rw [if_neg h1, if_pos h2])⟩
      · refine iteF' (decide_eq_false fun q => h2 (V.str.inj q)) ?_
        exact ⟨_, rfl, z, rfl, hz, k0 _ (by unfold ofSort; rw [if_neg h1, if_neg h2])⟩

/-! ### has_form -/
structure Fm (K : PySem.W.Frag) (w : World) (mg : Str → Option Value) (d : Addr) (es : Array DictEntry) (n : Nat) : Prop where
  g : mg "_FORMS" = some (.ref d)
  D : KDict K w d es n
  no : ∀ z : Str, formOf z = none → PySem.W.nsIn K d z = some none
  yes : ∀ (z : Str) f, formOf z = some f → ∃ t, PySem.W.nsIn K d z = some (some (.ref t)) ∧ ∀ H, SqT K H t (f.map V.str)
def spHasForm (K : PySem.W.Frag) : Sp := fun vs H Q _ => ∃ (a : Addr) (ps : List Str), vs = [.ref a] ∧ SqL K H a (ps.map V.str) ∧ ps ≠ [] ∧ ps.length ≤ 100000 ∧ (∀ z ∈ ps, z.length ≤ 100000) ∧ ∀ H', Same H H' → Q (.bl (hasForm ps)) H'
theorem sc_has_form : FnScope ["parts", "form", "part", "sort"] ["parts"] (defScope t_has_form) := ⟨rfl, rfl, rfl, by decide +kernel, rfl, by decide +kernel, by decide +kernel⟩
theorem cutTail (xs : List V) : cutV xs (some 1) none = xs.tail := by
  unfold cutV
  have e1 : HT.sIx xs.length 0 (some 1) = min 1 xs.length := by
    unfold HT.sIx
    simp
  have e2 : HT.sIx xs.length xs.length none = xs.length := rfl
  rw [e1, e2]
  cases xs with
  | nil => rfl
  | cons a r =>
    have : min 1 (a :: r).length = 1 := by rw [List.length_cons]; omega
    rw [this]
    show (r.take _) = r
    rw [List.take_of_length_le (by rw [List.length_cons]; omega)]
theorem ok_has_form {f f1 : Addr} {fd fd1 : FuncData} {d : Addr} {es : Array DictEntry} {n : Nat} (F : Fun K "has_form" "has_form" t_has_form f fd) (B : Bt mg) (M : Fm K w mg d es n)
    (G1 : FnOk P w K mg base CX0 2 f1 fd1 ["part", "sort"] spOfSort) (A1 : At K mg "_is_of_sort" f1 fd1 ["part", "sort"]) (k1 : PySem.W.keepIn K (.ref f1) = true) : FnOk P w K mg base CX0 3 f fd ["parts"] (spHasForm K) := by
  refine F.ok sc_has_form (fun vs H Q E h => ?_) (fun cdv A outer s H vs Q E hr h => ?_)
  · obtain ⟨a, ps, rfl, _⟩ := h
    rfl
  · obtain ⟨a, ps, rfl, hq, hne, hln, hz, k⟩ := h
    obtain ⟨w0, r, rfl⟩ : ∃ w0 r, ps = w0 :: r := by
      cases ps with
      | nil => exact absurd rfl hne
      | cons a b => exact ⟨a, b, rfl⟩
    have nd := sc_has_form.nd
    refine ⟨_, pss_cons (ps_if (pt_cmpR (op_notIn_kd M.D) (pe_ix ix_list (pv 0) pe_int (fun _ _ => rfl)) (pgR M.g) (by rfl)) (pss_one (ps_ret pe_bl)) pss_nil)
      (pss_cons (ps_set (i := 1) nd rfl (Or.inl rfl) (pe_ix ix_kdict (pgR M.g) (pe_ix ix_list (pv 0) pe_int (fun _ _ => rfl)) (fun _ _ => rfl)))
      (pss_cons (ps_if (PW.pt (pw_and (pt_cmpR op_eq (pe_ix ix_list (pv 0) pe_int (fun _ _ => rfl)) pe_str (nomark _)) (pw_and1 (pt_cmpR op_eq (pLenQ B.len (pv 0)) pe_int (nomark _)))))
        (pss_one (ps_set (i := 1) nd rfl (Or.inl rfl) (pe_tup (pa_cons pe_str (pa_cons pe_str (pa_cons pe_str pa_nil)))))) pss_nil)
      (pss_cons (ps_if (pt_cmpR op_ne (pLenQ B.len (pv 0)) (pe_op op_add (pLenQ B.len (pv 1)) pe_int) (nomark _)) (pss_one (ps_ret pe_bl)) pss_nil)
      (pss_one (ps_ret (pe_callB (cr_all rfl) (by rfl) B.all PyProof.Rows.boot_all
        (pa_cons (pe_lc (own := [("part", 2), ("sort", 3)]) (g := gTup K 2 (gCons (gName 2) (gCons (gName 3) gNil))) (tt := tYes) (by rfl) nd (pi_zipM (by rfl) B.zip (pa_cons (pe_slice sl_list (pv 0) (po_some pe_int) po_none) (pa_cons (pv 1) pa_nil)))
          (blkOk_by (own := [("part", 2), ("sort", 3)]) (N := ["parts", "form", "part", "sort"]) (sc := defScope t_has_form) (by decide +kernel)) (fun _ _ _ _ _ => pg_tup rfl (pgs_cons (pg_name (i := 2) nd rfl (Or.inl rfl)) (pgs_cons (pg_name (i := 3) nd rfl (Or.inl rfl)) pgs_nil)))
          (fun _ _ _ _ _ => pts_nil) (fun _ _ _ _ _ => pe_call G1 hr rfl A1.g k1 A1.b .nil pass0 (pa_cons (pv 2) (pa_cons (pv 3) pa_nil)))) pa_nil))))))), ?_⟩
    have at0 : atI ((w0 :: r).map V.str) 0 = some (.str w0) := atI_nat (j := 0) rfl
    have KH : hasForm (w0 :: r) = match formFor w0 (w0 :: r).length with
      | none => false
      | some f => ((w0 :: r).length == f.length + 1) && (r.zip f).all fun q => ofSort q.1 q.2 := rfl
    generalize hasForm (w0 :: r) = res at KH k
    cases hf : formOf w0 with
    | none =>
      refine ⟨_, rfl, a, _, _, _, rfl, rfl, hq, at0, w0, none, rfl, rfl, M.no w0 hf, true, rfl, iteT ?_⟩
      have e : formFor w0 (w0 :: r).length = none := by unfold formFor; rw [hf]; rfl
      rw [e] at KH
      subst KH
      exact k H (Same.refl H)
    | some f0 =>
      obtain ⟨t, ht, qt⟩ := M.yes w0 f0 hf
      refine ⟨_, rfl, a, _, _, _, rfl, rfl, hq, at0, w0, _, rfl, rfl, ht, false, rfl, iteF ?_⟩
      refine ⟨_, rfl, a, _, _, _, rfl, rfl, hq, at0, d, w0, .ref t, rfl, rfl, ⟨es, n, _, M.D.at_, M.D.lit, ht, rfl⟩, ?_⟩
      refine nx_of (nx_mk ?_)
      refine seq_cut (t := tIfS _ _ _) (fun σ' H' => ∃ (f : List Str) (t : Addr), σ' = [some (.ref a), some (.ref t), none, none] ∧ Same H H' ∧ SqT K H' t (f.map V.str) ∧ formFor w0 (w0 :: r).length = some f) (fun N hN => ?_) ?_
      · refine ⟨_, rfl, a, _, _, _, rfl, rfl, hq, at0, rfl, _, rfl, ?_⟩
        have e0 : formFor w0 (w0 :: r).length = some (if w0 = "each" ∧ (w0 :: r).length = 4 then eachL else f0) := by unfold formFor; rw [hf]; rfl
        by_cases h1 : w0 = "each"
        · refine iteT' (decide_eq_true (by rw [h1])) ?_
          refine ⟨_, rfl, a, _, rfl, .inl hq, rfl, _, rfl, ?_⟩
          by_cases h2 : (w0 :: r).length = 4
          · refine iteT' (decide_eq_true (by rw [List.length_map, h2]; rfl)) ?_
            refine ⟨by show 3 ≤ sizeLine; decide, fun p hp => ?_⟩
            exact hN _ _ ⟨eachL, p, rfl, same_new hp, SqT.of upd_same, by rw [e0, if_pos ⟨h1, h2⟩]⟩
          · refine iteF' (decide_eq_false fun q => h2 ?_) ?_
            · have q := V.int.inj q
              rw [List.length_map] at q
              omega
            exact hN _ _ ⟨f0, t, rfl, Same.refl H, qt H, by rw [e0, if_neg fun q => h2 q.2]⟩
        · refine iteF' (decide_eq_false fun q => h1 (V.str.inj q)) (iteF ?_)
          exact hN _ _ ⟨f0, t, rfl, Same.refl H, qt H, by rw [e0, if_neg fun q => h1 q.1]⟩
      · rintro _ H1 ⟨f, t1, rfl, s1, q1, e1⟩
        rw [e1] at KH
        have hq1 := s1.seq hq
        refine ⟨_, rfl, a, _, rfl, .inl hq1, _, rfl, t1, _, rfl, .inr q1, _, _, rfl, rfl, rfl, _, rfl, ?_⟩
        by_cases h3 : (w0 :: r).length = f.length + 1
        · refine iteF' (by rw [decide_eq_true (by rw [List.length_map, List.length_map, h3]; rfl)]; rfl) ?_
          have hlr : (r.map V.str).length = (f.map V.str).length := by
            rw [List.length_map, List.length_map]
            rw [List.length_cons] at h3
            omega
          refine ⟨_, rfl, _, rfl, a, _, rfl, hq1, fun p hp => ?_⟩
          rw [cutTail]
          refine ⟨_, rfl, p, t1, r.map V.str, f.map V.str, rfl, SqL.of upd_same, same_t (same_new hp) q1, fun D hD => lc_it (walk_zipM hlr) (fun i H' => Same (upd H1 p (.lst (r.map V.str))) H' ∧ H' D = some (.lst (((r.zip f).take i).map fun q => V.bl (ofSort q.1 q.2)))) ⟨same_new hD, upd_same⟩ (fun i H' _ h => ⟨h.1.seq (SqL.of upd_same), same_t h.1 (same_t (same_new hp) q1)⟩) ?_ ?_⟩
          · rintro i x H2 H2' hi ⟨s2, hDD⟩ ⟨T, x1, x2, rfl, hT, rfl, g1, g2⟩
            have g1 : (r.map V.str)[i]? = some x1 := g1
            have g2 : (f.map V.str)[i]? = some x2 := g2
            rw [List.getElem?_map] at g1 g2
            obtain ⟨z1, ez1, rfl⟩ : ∃ z1, r[i]? = some z1 ∧ V.str z1 = x1 := by
              cases e : r[i]? with
              | none => rw [e] at g1; cases g1
              | some z => rw [e] at g1; exact ⟨z, rfl, Option.some.inj g1⟩
            obtain ⟨z2, ez2, rfl⟩ : ∃ z2, f[i]? = some z2 ∧ V.str z2 = x2 := by
              cases e : f[i]? with
              | none => rw [e] at g2; cases g2
              | some z => rw [e] at g2; exact ⟨z, rfl, Option.some.inj g2⟩
            refine ⟨T, _, rfl, SqT.of upd_same, rfl, _, _, rfl, _, _, rfl, ⟨rfl, rfl, tYes_of ?_⟩⟩
            refine iteT ?_
            refine ⟨_, rfl, _, rfl, z1, z2, rfl, hz z1 (List.mem_cons_of_mem _ (List.mem_of_getElem? ez1)), fun H3 s3 => ?_⟩
            have hD2 : upd H2 T (.tup [V.str z1, V.str z2]) D = some (.lst (((r.zip f).take i).map fun q => V.bl (ofSort q.1 q.2))) := by rw [upd_ne (ne_of_none hDD hT)]; exact hDD
            refine ⟨_, s3 _ _ hD2, ?_, ?_, ?_⟩
            · rw [List.length_map, List.length_take, List.length_zip]
              have : r.length ≤ 100000 := by rw [List.length_cons] at hln; omega
              have : (100000 : Nat) < sizeLine := by decide
              omega
            · intro b o e
              have nD : b ≠ D := fun z => by
                have e2 : upd H1 p (.lst (r.map V.str)) D = some o := by rw [← z]; exact e
                exact nomatch (e2.symm.trans hD)
              rw [upd_ne nD]
              exact s3 _ _ (same_new hT _ _ (s2 _ _ e))
            · rw [upd_same]
              have ez : (r.zip f)[i]? = some (z1, z2) := by rw [List.getElem?_zip_eq_some]; exact ⟨ez1, ez2⟩
              rw [List.take_succ, ez, List.map_append]
              rfl
          · rintro H2 ⟨s2, hDD⟩
            refine ⟨D, (r.zip f).map fun q => ofSort q.1 q.2, rfl, SqL.of ?_, ?_⟩
            · rw [hDD, List.take_of_length_le, List.map_map]
              · rfl
              · rw [List.length_zip, List.length_map]
                exact Nat.min_le_left _ _
            · have e : res = ((r.zip f).map fun q => ofSort q.1 q.2).all id := by
                rw [KH, List.all_map, h3]
                simp
              rw [← e]
              exact k _ ((s1.trans (same_new hp)).trans s2)
        · have h3' : ¬ V.int ((List.map V.str (w0 :: r)).length : Int) = V.int ((List.map V.str f).length + 1) := fun q => h3 (by
            have q := V.int.inj q
            rw [List.length_map, List.length_map] at q
            omega)
          refine iteT' (congrArg not (decide_eq_false h3')) ?_
          have e : res = false := by
            rw [KH]
            show ((w0 :: r).length == f.length + 1 && _) = false
            rw [show ((w0 :: r).length == f.length + 1) = false from beq_eq_false_iff_ne.mpr h3, Bool.false_and]
          rw [← e]
          exact k _ s1
end
end Ly
end
section
set_option Elab.async false
set_option linter.all false
set_option maxRecDepth 100000
/-! Steps: the rows that are carried out. -/
namespace Ly
open PySem PySem.Spec PyProof.Rows L2

/-- a row or block: what is written in it, its rows by their numbers -/
structure Node where
  word : Str
  name : Str
  how : Str
  many : Int
  body : List Nat
  mark : Str
  behind : List Nat
/-- its attributes; its two lists stand at b and c -/
def flds (nd : Node) (b c : Addr) : List (Str × V) := [("word", .str nd.word), ("name", .str nd.name), ("how", .str nd.how), ("many", .int nd.many), ("body", .ref b), ("mark", .str nd.mark), ("behind", .ref c)]
def digit (z : Str) : Int := (z.cps.getD 0 48 : Nat) - 48
def nodeOf (ps : List Str) : Node :=
  { word := ps.getD 0 "", name := if ps.getD 0 "" = "repeat" then "" else if 1 < ps.length then ps.getD 1 "" else "", how := if ps.getD 0 "" = "each" then ps.getD 2 "" else "",
    many := if 3 < ps.length then digit (ps.getD 3 "") else if ps.getD 0 "" = "repeat" then digit (ps.getD 1 "") else 0, body := [], mark := "", behind := [] }
/-- which parts a row must have -/
structure RowOk (ps : List Str) : Prop where
  ne : ps ≠ []
  len : ps.length ≤ 4
  rep : ps.getD 0 "" = "repeat" → 1 < ps.length ∧ isFigure (ps.getD 1 "") = true
  each : ps.getD 0 "" = "each" → 2 < ps.length
  fig : 3 < ps.length → isFigure (ps.getD 3 "") = true
theorem digit_text {z : Str} (h : isFigure z = true) : intText? z = some (digit z) ∧ z.length = 1 := by
  unfold isFigure at h
  rw [Bool.and_eq_true, Bool.and_eq_true] at h
  obtain ⟨⟨h1, h2⟩, h3⟩ := h
  have hl : z.length = 1 := by simpa using h1
  obtain ⟨c, rfl⟩ : ∃ c, z = ⟨#[c]⟩ := by
    obtain ⟨⟨l⟩⟩ := z
    match l, hl with
    | [c], _ => exact ⟨c, rfl⟩
  have a : 49 ≤ c := by
    have q : ¬ ([c] < [49]) := by simpa [leS, show (Str.ofString "1").cps.toList = [49] by kernel_rfl] using h2
    rw [List.cons_lt_cons_iff] at q
    omega
  have b : c ≤ 57 := by
    have q : ¬ ([57] < [c]) := by simpa [leS, show (Str.ofString "9").cps.toList = [57] by kernel_rfl] using h3
    rw [List.cons_lt_cons_iff] at q
    omega
  refine ⟨?_, hl⟩
  have : c = 49 ∨ c = 50 ∨ c = 51 ∨ c = 52 ∨ c = 53 ∨ c = 54 ∨ c = 55 ∨ c = 56 ∨ c = 57 := by omega
  rcases this with rfl | rfl | rfl | rfl | rfl | rfl | rfl | rfl | rfl <;> kernel_rfl

theorem sq_keep {K : PySem.W.Frag} {H H' : Hp} {p a C dx : Addr} {fs : List (Str × V)} {xs : List V} (hp : H p = some (.ins C dx fs)) (k : ∀ x o, H x = some o → x ≠ p → H' x = some o) (h : SqL K H a xs) : SqL K H' a xs := by
  rcases h with (h | ⟨o, h⟩) | h
  · exact .inl (.inl (k _ _ h (ne_of h hp (by intro z; cases z))))
  · exact .inl (.inr ⟨o, k _ _ h (ne_of h hp (by intro z; cases z))⟩)
  · exact .inr h
/-- the class Step as the top has made it -/
structure StC (K : PySem.W.Frag) (mg : Str → Option Value) (C : Addr) : Prop where
  cl : Cls K C
  g : mg "Step" = some (.ref C)
  w : NoAttr K C "word"
  n : NoAttr K C "name"
  h : NoAttr K C "how"
  m : NoAttr K C "many"
  b : NoAttr K C "body"
  k : NoAttr K C "mark"
  e : NoAttr K C "behind"
section
variable {P : Program} {w : World} {K : PySem.W.Frag} {mg : Str → Option Value} {base : Heap} {C : Addr}
def spStep (K : PySem.W.Frag) (C : Addr) : Sp := fun vs H Q _ => ∃ (p dx a : Addr) (ps : List Str), vs = [.ref p, .ref a] ∧ H p = some (.ins C dx []) ∧ SqL K H a (ps.map V.str) ∧ RowOk ps ∧
  ∀ (H' : Hp) (b c : Addr), H b = none → H c = none → b ≠ c → H' p = some (.ins C dx (flds (nodeOf ps) b c)) → H' b = some (.lst []) → H' c = some (.lst []) → (∀ x o, H x = some o → x ≠ p → H' x = some o) → Q .non H'
theorem sc_Step : FnScope ["self", "parts"] ["self", "parts"] (defScope t_Step_init) := ⟨rfl, rfl, rfl, by decide +kernel, rfl, by decide +kernel, by decide +kernel⟩
theorem at_str {ps : List Str} {i : Nat} (h : i < ps.length) : atI (ps.map V.str) (i : Int) = some (.str (ps.getD i "")) := by
  refine atI_nat (j := i) ?_
  rw [List.getElem?_map, List.getElem?_eq_getElem h]
  rw [List.getD_eq_getElem?_getD, List.getElem?_eq_getElem h]
  rfl
/-- the attributes of a Step that is being made; where it stands then -/
def gfs (w0 nm hw : Str) (mn : Int) (b c : Addr) : List (Str × V) := [("word", .str w0), ("name", .str nm), ("how", .str hw), ("many", .int mn), ("body", .ref b), ("mark", .str ""), ("behind", .ref c)]
def Gd (H : Hp) (C p dx a b c : Addr) (w0 nm hw : Str) (mn : Int) : L2.St → Hp → Prop := fun σ' H' => σ' = [some (.ref p), some (.ref a)] ∧ H' p = some (.ins C dx (gfs w0 nm hw mn b c)) ∧ H' b = some (.lst []) ∧ H' c = some (.lst []) ∧ ∀ x o, H x = some o → x ≠ p → H' x = some o
theorem gd_put {H H' : Hp} {C p dx a b c : Addr} {w0 nm hw nm' hw' : Str} {mn mn' : Int} {σ' : L2.St} {fs : List (Str × V)} (g : Gd H C p dx a b c w0 nm hw mn σ' H') (nb : H b = none) (nc : H c = none) (e : fs = gfs w0 nm' hw' mn' b c) :
    Gd H C p dx a b c w0 nm' hw' mn' σ' (upd H' p (.ins C dx fs)) := by
  obtain ⟨g1, g2, g3, g4, g5⟩ := g
  subst e
  have n1 : b ≠ p := ne_of g3 g2 (by intro z; cases z)
  have n2 : c ≠ p := ne_of g4 g2 (by intro z; cases z)
  exact ⟨g1, upd_same, by rw [upd_ne n1]; exact g3, by rw [upd_ne n2]; exact g4, fun x o e ne => by rw [upd_ne ne]; exact g5 x o e ne⟩
theorem cutH {N : L2.St → Hp → Prop} {σ : L2.St} {H : Hp} (R : L2.St → Hp → Prop) (r : R σ H) (h : ∀ σ H, R σ H → N σ H) : N σ H := h _ _ r
theorem ok_Step {f : Addr} {fd : FuncData} (F : Fun K "__init__" "Step.__init__" t_Step_init f fd) (B : Bt mg) (T : StC K mg C) : FnOk P w K mg base CX0 1 f fd ["self", "parts"] (spStep K C) := by
  refine F.ok sc_Step (fun vs H Q E h => ?_) (fun cdv A outer s H vs Q E hr h => ?_)
  · obtain ⟨p, dx, a, ps, rfl, _⟩ := h
    rfl
  · obtain ⟨p, dx, a, ps, rfl, hp, hq, ok, k⟩ := h
    refine ⟨_, pss_cons (ps_fld (pv 0) (pe_ix ix_list (pv 1) pe_int (fun _ _ => rfl)) rfl) (pss_cons (ps_fld (pv 0) pe_str rfl) (pss_cons (ps_fld (pv 0) pe_str rfl) (pss_cons (ps_fld (pv 0) pe_int rfl) (pss_cons (ps_fld (pv 0) (pe_lst pa_nil) rfl)
      (pss_cons (ps_fld (pv 0) pe_str rfl) (pss_cons (ps_fld (pv 0) (pe_lst pa_nil) rfl)
      (pss_cons (ps_if (pt_cmpR op_eq (pe_fld (pv 0) rfl) pe_str (nomark _)) (pss_one (ps_fld (pv 0) (pe_callTy call_int_str (by rfl) B.int PyProof.Rows.boot_int (pa_cons (pe_ix ix_list (pv 1) pe_int (fun _ _ => rfl)) pa_nil)) rfl))
        (pss_one (ps_if (pt_cmpR op_gt (pLenQ B.len (pv 1)) pe_int (nomark _)) (pss_one (ps_fld (pv 0) (pe_ix ix_list (pv 1) pe_int (fun _ _ => rfl)) rfl)) pss_nil)))
      (pss_cons (ps_if (pt_cmpR op_eq (pe_fld (pv 0) rfl) pe_str (nomark _)) (pss_one (ps_fld (pv 0) (pe_ix ix_list (pv 1) pe_int (fun _ _ => rfl)) rfl)) pss_nil)
      (pss_one (ps_if (pt_cmpR op_gt (pLenQ B.len (pv 1)) pe_int (nomark _)) (pss_one (ps_fld (pv 0) (pe_callTy call_int_str (by rfl) B.int PyProof.Rows.boot_int (pa_cons (pe_ix ix_list (pv 1) pe_int (fun _ _ => rfl)) pa_nil)) rfl)) pss_nil)))))))))), ?_⟩
    have h0 : 0 < ps.length := List.length_pos_iff.mpr ok.ne
    generalize hw0 : ps.getD 0 "" = w0
    have at0 : atI (ps.map V.str) 0 = some (.str w0) := by rw [← hw0]; exact at_str h0
    have lst : ∀ {H' : Hp}, (∀ x o, H x = some o → x ≠ p → H' x = some o) → SqL K H' a (ps.map V.str) := fun q => sq_keep hp q hq
    have k1 : ∀ {o : HO}, ∀ x u, H x = some u → x ≠ p → upd H p o x = some u := fun x u e ne => by rw [upd_ne ne]; exact e
    refine ⟨_, rfl, a, _, _, _, rfl, rfl, hq, at0, _, rfl, p, C, dx, _, rfl, hp, T.cl, T.w, (by show 0 < 1000; decide), ?_⟩
    refine ⟨_, rfl, p, C, dx, _, rfl, upd_same, T.cl, T.n, (by show 1 < 1000; decide), ?_⟩
    refine ⟨_, rfl, p, C, dx, _, rfl, upd_same, T.cl, T.h, (by show 2 < 1000; decide), ?_⟩
    refine ⟨_, rfl, p, C, dx, _, rfl, upd_same, T.cl, T.m, (by show 3 < 1000; decide), ?_⟩
    rw [upd_upd, upd_upd, upd_upd]
    refine ⟨by show 0 ≤ sizeLine; decide, fun b hb => ?_⟩
    have npb : p ≠ b := ne_of_none upd_same hb
    refine ⟨_, rfl, p, C, dx, _, rfl, by rw [upd_ne npb]; exact upd_same, T.cl, T.b, (by show 4 < 1000; decide), ?_⟩
    refine ⟨_, rfl, p, C, dx, _, rfl, upd_same, T.cl, T.k, (by show 5 < 1000; decide), ?_⟩
    rw [upd_upd]
    refine ⟨by show 0 ≤ sizeLine; decide, fun c hc => ?_⟩
    have npc : p ≠ c := ne_of_none upd_same hc
    refine ⟨_, rfl, p, C, dx, _, rfl, by rw [upd_ne npc]; exact upd_same, T.cl, T.e, (by show 6 < 1000; decide), ?_⟩
    have nb : H b = none := by rw [upd_ne npb.symm] at hb; exact hb
    have nbc : b ≠ c := fun z => by
      rw [← z, upd_ne npb.symm, upd_same] at hc
      cases hc
    have nc : H c = none := by rw [upd_ne npc.symm, upd_ne nbc.symm, upd_ne npc.symm] at hc; exact hc
    refine cutH (Gd H C p dx a b c w0 "" "" 0) ⟨rfl, Eq.trans upd_same (by kernel_rfl), by rw [upd_ne npb.symm, upd_ne nbc, upd_ne npb.symm, upd_same], by rw [upd_ne npc.symm, upd_same], fun x o e ne => by
        rw [upd_ne ne, upd_ne (ne_of_none e nc), upd_ne ne, upd_ne (ne_of_none e nb), upd_ne ne]; exact e⟩ fun σ0 H0 start => ?_
    refine nx_mk ?_
    -- if self.word == 'repeat': .. elif len(parts) > 1: ..
    refine seq_cut (t := tIfS _ _ _) (Gd H C p dx a b c w0 (nodeOf ps).name "" (if w0 = "repeat" then digit (ps.getD 1 "") else 0)) (fun N hN => ?_) ?_
    · obtain ⟨rfl, e2, e3, e4, e5⟩ := start
      refine ⟨_, rfl, p, C, dx, _, _, rfl, e2, T.cl, T.w, rfl, rfl, _, rfl, ?_⟩
      by_cases c1 : w0 = "repeat"
      · refine iteT' (decide_eq_true (by rw [c1])) ?_
        obtain ⟨q1, q2⟩ := ok.rep (by rw [hw0]; exact c1)
        obtain ⟨q3, q4⟩ := digit_text q2
        refine ⟨_, rfl, a, _, _, _, rfl, rfl, lst e5, at_str q1, _, _, rfl, q3, by rw [q4]; decide, _, rfl, p, C, dx, _, rfl, e2, T.cl, T.m, (by show 7 < 1000; decide), ?_⟩
        refine hN _ _ (gd_put ⟨rfl, e2, e3, e4, e5⟩ nb nc ?_)
        have z : (nodeOf ps).name = "" := by show (if ps.getD 0 "" = "repeat" then _ else _) = _; rw [hw0, if_pos c1]
        rw [z, if_pos c1]
        kernel_rfl
      · refine iteF' (decide_eq_false fun q => c1 (V.str.inj q)) ?_
        refine ⟨_, rfl, a, _, rfl, .inl (lst e5), _, _, rfl, rfl, _, rfl, ?_⟩
        by_cases c2 : 1 < ps.length
        · refine iteT' (decide_eq_true (by rw [List.length_map]; omega)) ?_
          refine ⟨_, rfl, a, _, _, _, rfl, rfl, lst e5, at_str c2, _, rfl, p, C, dx, _, rfl, e2, T.cl, T.n, (by show 7 < 1000; decide), ?_⟩
          refine hN _ _ (gd_put ⟨rfl, e2, e3, e4, e5⟩ nb nc ?_)
          have z : (nodeOf ps).name = ps.getD 1 "" := by show (if ps.getD 0 "" = "repeat" then _ else if 1 < ps.length then _ else _) = _; rw [hw0, if_neg c1, if_pos c2]
          rw [z, if_neg c1]
          kernel_rfl
        · refine iteF' (decide_eq_false (by rw [List.length_map]; omega)) ?_
          refine hN _ _ ?_
          have z : (nodeOf ps).name = "" := by show (if ps.getD 0 "" = "repeat" then _ else if 1 < ps.length then _ else _) = _; rw [hw0, if_neg c1, if_neg c2]
          rw [z, if_neg c1]
          exact ⟨rfl, e2, e3, e4, e5⟩
    rintro σ1 H1 g1
    -- if self.word == 'each': ..
    refine seq_cut (t := tIfS _ _ _) (Gd H C p dx a b c w0 (nodeOf ps).name (nodeOf ps).how (if w0 = "repeat" then digit (ps.getD 1 "") else 0)) (fun N hN => ?_) ?_
    · obtain ⟨rfl, e2, e3, e4, e5⟩ := g1
      refine ⟨_, rfl, p, C, dx, _, _, rfl, e2, T.cl, T.w, rfl, rfl, _, rfl, ?_⟩
      by_cases c1 : w0 = "each"
      · refine iteT' (decide_eq_true (by rw [c1])) ?_
        have q1 := ok.each (by rw [hw0]; exact c1)
        refine ⟨_, rfl, a, _, _, _, rfl, rfl, lst e5, at_str q1, _, rfl, p, C, dx, _, rfl, e2, T.cl, T.h, (by show 7 < 1000; decide), ?_⟩
        refine hN _ _ (gd_put ⟨rfl, e2, e3, e4, e5⟩ nb nc ?_)
        have z : (nodeOf ps).how = ps.getD 2 "" := by show (if ps.getD 0 "" = "each" then _ else _) = _; rw [hw0, if_pos c1]
        rw [z]
        kernel_rfl
      · refine iteF' (decide_eq_false fun q => c1 (V.str.inj q)) ?_
        refine hN _ _ ?_
        have z : (nodeOf ps).how = "" := by show (if ps.getD 0 "" = "each" then _ else _) = _; rw [hw0, if_neg c1]
        rw [z]
        exact ⟨rfl, e2, e3, e4, e5⟩
    rintro σ2 H2 ⟨rfl, e2, e3, e4, e5⟩
    -- if len(parts) > 3: ..
    have fin : ∀ {H' : Hp} {mn : Int} {σ' : L2.St}, mn = (nodeOf ps).many → Gd H C p dx a b c w0 (nodeOf ps).name (nodeOf ps).how mn σ' H' → Q .non H' := fun {H' mn σ'} em g => by
      obtain ⟨_, g2, g3, g4, g5⟩ := g
      refine k H' b c nb nc nbc ?_ g3 g4 g5
      have z : flds (nodeOf ps) b c = gfs w0 (nodeOf ps).name (nodeOf ps).how mn b c := by rw [em, ← hw0]; rfl
      rw [z]
      exact g2
    refine ⟨_, rfl, a, _, rfl, .inl (lst e5), _, _, rfl, rfl, _, rfl, ?_⟩
    by_cases c3 : 3 < ps.length
    · refine iteT' (decide_eq_true (by rw [List.length_map]; omega)) ?_
      obtain ⟨q3, q4⟩ := digit_text (ok.fig c3)
      refine ⟨_, rfl, a, _, _, _, rfl, rfl, lst e5, at_str c3, _, _, rfl, q3, by rw [q4]; decide, _, rfl, p, C, dx, _, rfl, e2, T.cl, T.m, (by show 7 < 1000; decide), ?_⟩
      refine fin (mn := digit (ps.getD 3 "")) (by show _ = (if 3 < ps.length then _ else _); rw [if_pos c3]) (gd_put ⟨rfl, e2, e3, e4, e5⟩ nb nc ?_)
      kernel_rfl
    · refine iteF' (decide_eq_false (by rw [List.length_map]; omega)) ?_
      exact fin (by show _ = (if 3 < ps.length then _ else if ps.getD 0 "" = "repeat" then _ else _); rw [if_neg c3, hw0]) ⟨rfl, e2, e3, e4, e5⟩
end
end Ly
end
section
set_option Elab.async false
set_option linter.all false
set_option maxRecDepth 100000
/-! The reader: its state as plain data, where it stands in the heap. -/
namespace Ly
open PySem PySem.Spec PyProof.Rows L2

instance : Inhabited Node := ⟨{ word := "", name := "", how := "", many := 0, body := [], mark := "", behind := [] }⟩
/-- what a Reader holds: all rows as nodes, by number -/
structure RS where
  ns : List Node
  around : List Nat
  jobs : List (Str × Nat)
  walks : List (Str × Nat)
  gates : List Str
  begun : List Str
  deepest : Nat
def RS.start : RS := ⟨[], [], [], [], [], [], 0⟩
def RS.node (st : RS) (i : Nat) : Node := st.ns.getD i default
def RS.last (st : RS) : Nat := st.around.getLastD 0
def putN (js : List (Str × Nat)) (k : Str) (v : Nat) : List (Str × Nat) := if (js.any fun p => decide (p.1 = k)) = true then js.map (fun p => if p.1 = k then (p.1, v) else p) else js ++ [(k, v)]
def hasN (js : List (Str × Nat)) (k : Str) : Bool := js.any fun p => decide (p.1 = k)
def defineM (st : RS) (ps : List Str) : Option RS :=
  if st.around ≠ [] ∨ hasN (if ps.getD 0 "" = "job" then st.jobs else st.walks) (ps.getD 1 "") = true then none else some { st with ns := st.ns ++ [nodeOf ps], around := st.around ++ [st.ns.length] }
def markM (st : RS) (w : Str) : Option RS :=
  if (st.node st.last).word ≠ "guard" ∨ (st.node st.last).mark ≠ "" then none else some { st with ns := st.ns.set st.last { st.node st.last with mark := w } }
def endM (st : RS) : Option RS :=
  if (st.node st.last).word = "guard" ∧ (st.node st.last).mark = "" then none
  else if (st.node st.last).word = "job" then some { st with around := st.around.dropLast, jobs := putN st.jobs (st.node st.last).name st.last }
  else if (st.node st.last).word = "walk" then some { st with around := st.around.dropLast, walks := putN st.walks (st.node st.last).name st.last }
  else some { st with around := st.around.dropLast }
def keepsM (nd : Node) (walk : Str) : Bool := decide (nd.how = "kept") && decide (nd.name = walk)
def mayStandM (st : RS) (nd : Node) : Bool :=
  if nd.word = "give" then decide ((st.node (st.around.headD 0)).word = "walk") && !(st.around.any fun i => decide ((st.node i).mark = "late"))
  else if nd.word ≠ "each" then true
  else if hasN st.walks nd.name = false then false
  else if nd.how ≠ "kept" then true
  else decide ((st.node (st.around.headD 0)).word = "job") && !(st.around.any fun i => keepsM (st.node i) nd.name)
def blocksL : List Str := ["repeat", "guard", "each"]
def addM (st : RS) (nd : Node) : Option RS :=
  if mayStandM st nd = false then none
  else
    let blk := st.node st.last
    let blk' : Node := if blk.mark ≠ "" then { blk with behind := blk.behind ++ [st.ns.length] } else { blk with body := blk.body ++ [st.ns.length] }
    let opens := blocksL.any (· == nd.word)
    some { st with
      ns := st.ns.set st.last blk' ++ [nd]
      gates := if nd.word = "wait" ∨ nd.word = "open" then st.gates ++ [nd.name] else st.gates
      begun := if nd.word = "wait" ∨ nd.word = "open" then st.begun else if nd.word = "begin" then st.begun ++ [nd.name] else st.begun
      deepest := if opens then max st.deepest st.around.length else st.deepest
      around := if opens then st.around ++ [st.ns.length] else st.around }
def takeM (st : RS) (ps : List Str) : Option RS :=
  if hasForm ps = false then none
  else if ps.getD 0 "" = "job" ∨ ps.getD 0 "" = "walk" then defineM st ps
  else if st.around = [] then none
  else if ps.getD 0 "" = "late" ∨ ps.getD 0 "" = "mend" then markM st (ps.getD 0 "")
  else if ps.getD 0 "" = "end" then endM st
  else addM st (nodeOf ps)

/-! ### where it stands -/
inductive LL where
  | g | u | r | b (i : Nat) | c (i : Nat)
  deriving DecidableEq
def LL.ok (n : Nat) : LL → Prop
  | .b i => i < n
  | .c i => i < n
  | _ => True
/-- the addresses: the reader, its two dicts, the nodes, the lists -/
structure Lay where
  r : Addr
  jd : Addr
  wd : Addr
  oa : Nat → Addr
  la : LL → Addr
def refs (L : Lay) (is : List Nat) : List V := is.map fun i => V.ref (L.oa i)
def cont (st : RS) (L : Lay) : LL → List V
  | .g => st.gates.map V.str
  | .u => st.begun.map V.str
  | .r => refs L st.around
  | .b i => refs L (st.node i).body
  | .c i => refs L (st.node i).behind
def rflds (L : Lay) (dp : Nat) : List (Str × V) := [("jobs", .ref L.jd), ("walks", .ref L.wd), ("gates", .ref (L.la .g)), ("begun", .ref (L.la .u)), ("deepest", .int (dp : Int)), ("around", .ref (L.la .r))]
def kvsN (L : Lay) (js : List (Str × Nat)) : List (Key × V) := js.map fun p => (Sum.inr p.1, V.ref (L.oa p.2))
inductive Foot (L : Lay) (n : Nat) : Addr → Prop where
  | r : Foot L n L.r
  | jd : Foot L n L.jd
  | wd : Foot L n L.wd
  | la (x : LL) (h : x.ok n) : Foot L n (L.la x)
  | oa (i : Nat) (h : i < n) : Foot L n (L.oa i)
/-- THE REPRESENTATION: over what stood in H0 (kept), the state st at L; T rows were taken -/
structure RR (CR CS : Addr) (H0 H : Hp) (L : Lay) (st : RS) (T : Nat) : Prop where
  ob : ∃ dx, H L.r = some (.ins CR dx (rflds L st.deepest))
  jobs : H L.jd = some (.dK (kvsN L st.jobs))
  walks : H L.wd = some (.dK (kvsN L st.walks))
  lst : ∀ x, x.ok st.ns.length → H (L.la x) = some (.lst (cont st L x))
  nod : ∀ i, i < st.ns.length → ∃ dx, H (L.oa i) = some (.ins CS dx (flds (st.node i) (L.la (.b i)) (L.la (.c i))))
  jw : L.jd ≠ L.wd
  linj : ∀ x y, x.ok st.ns.length → y.ok st.ns.length → L.la x = L.la y → x = y
  oinj : ∀ i j, i < st.ns.length → j < st.ns.length → L.oa i = L.oa j → i = j
  onr : ∀ i, i < st.ns.length → L.oa i ≠ L.r
  wfA : ∀ i ∈ st.around, i < st.ns.length
  wfJ : ∀ p ∈ st.jobs, p.2 < st.ns.length
  wfW : ∀ p ∈ st.walks, p.2 < st.ns.length
  wfB : ∀ k, k < st.ns.length → ∀ i ∈ (st.node k).body, i < st.ns.length
  wfC : ∀ k, k < st.ns.length → ∀ i ∈ (st.node k).behind, i < st.ns.length
  base : Same H0 H
  fresh : ∀ b, Foot L st.ns.length b → H0 b = none
  szL : ∀ x, x.ok st.ns.length → (cont st L x).length ≤ T
  szJ : st.jobs.length ≤ T
  szW : st.walks.length ≤ T
  szN : st.ns.length ≤ T
  szT : T ≤ 100000
  szM : ∀ i, i < st.ns.length → (st.node i).mark.length ≤ 100
section
variable {CR CS : Addr} {H0 H H' : Hp} {L : Lay} {st : RS} {T : Nat}
theorem RR.same (R : RR CR CS H0 H L st T) (s : Same H H') : RR CR CS H0 H' L st T :=
  { R with
    ob := let ⟨dx, e⟩ := R.ob; ⟨dx, s _ _ e⟩
    jobs := s _ _ R.jobs
    walks := s _ _ R.walks
    lst := fun x h => s _ _ (R.lst x h)
    nod := fun i h => let ⟨dx, e⟩ := R.nod i h; ⟨dx, s _ _ e⟩
    base := R.base.trans s }
/-- the address of what is written stands apart from all else -/
theorem RR.more (R : RR CR CS H0 H L st T) (h : T + 1 ≤ 100000) : RR CR CS H0 H L st (T + 1) :=
  { R with szL := fun x h => Nat.le_succ_of_le (R.szL x h), szJ := Nat.le_succ_of_le R.szJ, szW := Nat.le_succ_of_le R.szW, szN := Nat.le_succ_of_le R.szN, szT := h }
theorem base_upd {a : Addr} {o : HO} (s : Same H0 H) (h : H0 a = none) : Same H0 (upd H a o) := fun b u e => by rw [upd_ne (ne_of_none e h)]; exact s b u e
theorem upd_at {H : Hp} {a b : Addr} {o u v : HO} (e : H b = some u) (ha : H a = some v) (ne : u ≠ v) : upd H a o b = some u := by rw [upd_ne (ne_of e ha ne)]; exact e
/-- the reader's own attribute deepest -/
theorem RR.deep (R : RR CR CS H0 H L st T) {dx : Addr} (hx : H L.r = some (.ins CR dx (rflds L st.deepest))) (d : Nat) : RR CR CS H0 (upd H L.r (.ins CR dx (rflds L d))) L { st with deepest := d } T :=
  { R with
    ob := ⟨dx, upd_same⟩
    jobs := upd_at R.jobs hx (by intro z; cases z)
    walks := upd_at R.walks hx (by intro z; cases z)
    lst := fun x h => upd_at (show H (L.la x) = some (.lst (cont st L x)) from R.lst x h) hx (by intro z; cases z)
    nod := fun i h => let ⟨dy, e⟩ := R.nod i h; ⟨dy, by rw [upd_ne (R.onr i h)]; exact e⟩
    base := base_upd R.base (R.fresh _ .r) }
/-- one list is written -/
theorem RR.list (R : RR CR CS H0 H L st T) (x : LL) (hx : x.ok st.ns.length) (st' : RS) (eN : st'.ns.length = st.ns.length) (eJ : st'.jobs = st.jobs) (eW : st'.walks = st.walks) (eD : st'.deepest = st.deepest)
    (eF : ∀ i, i < st.ns.length → ∀ b c, flds (st'.node i) b c = flds (st.node i) b c) (eM : ∀ i, i < st.ns.length → (st'.node i).mark = (st.node i).mark) (ec : ∀ y, y.ok st.ns.length → y ≠ x → cont st' L y = cont st L y) (hl : (cont st' L x).length ≤ T)
    (wA : ∀ i ∈ st'.around, i < st.ns.length) (wB : ∀ k, k < st.ns.length → ∀ i ∈ (st'.node k).body, i < st.ns.length) (wC : ∀ k, k < st.ns.length → ∀ i ∈ (st'.node k).behind, i < st.ns.length) :
    RR CR CS H0 (upd H (L.la x) (.lst (cont st' L x))) L st' T where
  ob := let ⟨dx, e⟩ := R.ob; ⟨dx, by rw [eD]; exact upd_at e (R.lst x hx) (by intro z; cases z)⟩
  jobs := by rw [eJ]; exact upd_at R.jobs (R.lst x hx) (by intro z; cases z)
  walks := by rw [eW]; exact upd_at R.walks (R.lst x hx) (by intro z; cases z)
  lst := fun y h => by
    rw [eN] at h
    by_cases e : y = x
    · subst e; exact upd_same
    · rw [upd_ne fun z => e (R.linj y x h hx z), ec y h e]; exact R.lst y h
  nod := fun i h => by
    rw [eN] at h
    obtain ⟨dx, e⟩ := R.nod i h
    exact ⟨dx, by rw [eF i h]; exact upd_at e (R.lst x hx) (by intro z; cases z)⟩
  jw := R.jw
  linj := by rw [eN]; exact R.linj
  oinj := by rw [eN]; exact R.oinj
  onr := by rw [eN]; exact R.onr
  wfA := by rw [eN]; exact wA
  wfJ := by rw [eJ, eN]; exact R.wfJ
  wfW := by rw [eW, eN]; exact R.wfW
  wfB := by rw [eN]; exact wB
  wfC := by rw [eN]; exact wC
  base := base_upd R.base (R.fresh _ (.la x hx))
  fresh := by rw [eN]; exact R.fresh
  szL := fun y h => by
    rw [eN] at h
    by_cases e : y = x
    · subst e; exact hl
    · rw [ec y h e]; exact R.szL y h
  szJ := by rw [eJ]; exact R.szJ
  szW := by rw [eW]; exact R.szW
  szN := by rw [eN]; exact R.szN
  szT := R.szT
  szM := fun i h => by rw [eN] at h; rw [eM i h]; exact R.szM i h
theorem node_set {st : RS} {i j : Nat} {nd : Node} (hi : i < st.ns.length) : ({ st with ns := st.ns.set i nd } : RS).node j = if j = i then nd else st.node j := by
  show (st.ns.set i nd).getD j default = _
  rw [List.getD_eq_getElem?_getD, List.getElem?_set]
  by_cases e : i = j
  · subst e
    rw [if_pos rfl, if_pos hi, if_pos rfl]
    rfl
  · rw [if_neg e, if_neg (Ne.symm e), ← List.getD_eq_getElem?_getD]
    rfl
/-- a node's mark is written -/
theorem RR.mark (R : RR CR CS H0 H L st T) {i : Nat} (hi : i < st.ns.length) (nd : Node) (hm : nd.mark.length ≤ 100) (eb : nd.body = (st.node i).body) (ec : nd.behind = (st.node i).behind) {dx : Addr} {fs : List (Str × V)} (hx : H (L.oa i) = some (.ins CS dx fs)) :
    RR CR CS H0 (upd H (L.oa i) (.ins CS dx (flds nd (L.la (.b i)) (L.la (.c i))))) L { st with ns := st.ns.set i nd } T := by
  have el : (st.ns.set i nd).length = st.ns.length := List.length_set ..
  have cc : ∀ y, cont ({ st with ns := st.ns.set i nd } : RS) L y = cont st L y := fun y => by
    cases y with
    | b j => show refs L (RS.node _ j).body = _; rw [node_set hi]; split; (rename_i e; subst e; rw [eb]; rfl); rfl
    | c j => show refs L (RS.node _ j).behind = _; rw [node_set hi]; split; (rename_i e; subst e; rw [ec]; rfl); rfl
    | _ => rfl
  exact {
    ob := let ⟨dy, e⟩ := R.ob; ⟨dy, by rw [upd_ne (R.onr i hi).symm]; exact e⟩
    jobs := upd_at R.jobs hx (by intro z; cases z)
    walks := upd_at R.walks hx (by intro z; cases z)
    lst := fun y h => by
      rw [show ({ st with ns := st.ns.set i nd } : RS).ns.length = st.ns.length from el] at h
      rw [cc]
      exact upd_at (R.lst y h) hx (by intro z; cases z)
    nod := fun j h => by
      rw [show ({ st with ns := st.ns.set i nd } : RS).ns.length = st.ns.length from el] at h
      rw [node_set hi]
      by_cases e : j = i
      · subst e
        rw [if_pos rfl]
        exact ⟨dx, upd_same⟩
      · rw [if_neg e, upd_ne fun z => e (R.oinj j i h hi z)]
        exact R.nod j h
    jw := R.jw
    linj := by rw [show ({ st with ns := st.ns.set i nd } : RS).ns.length = st.ns.length from el]; exact R.linj
    oinj := by rw [show ({ st with ns := st.ns.set i nd } : RS).ns.length = st.ns.length from el]; exact R.oinj
    onr := by rw [show ({ st with ns := st.ns.set i nd } : RS).ns.length = st.ns.length from el]; exact R.onr
    wfA := by rw [show ({ st with ns := st.ns.set i nd } : RS).ns.length = st.ns.length from el]; exact R.wfA
    wfJ := by rw [show ({ st with ns := st.ns.set i nd } : RS).ns.length = st.ns.length from el]; exact R.wfJ
    wfW := by rw [show ({ st with ns := st.ns.set i nd } : RS).ns.length = st.ns.length from el]; exact R.wfW
    wfB := fun k hk j hj => by
      rw [show ({ st with ns := st.ns.set i nd } : RS).ns.length = st.ns.length from el] at hk ⊢
      rw [node_set hi] at hj
      by_cases e : k = i
      · rw [if_pos e, eb] at hj
        exact R.wfB i hi j hj
      · rw [if_neg e] at hj
        exact R.wfB k hk j hj
    wfC := fun k hk j hj => by
      rw [show ({ st with ns := st.ns.set i nd } : RS).ns.length = st.ns.length from el] at hk ⊢
      rw [node_set hi] at hj
      by_cases e : k = i
      · rw [if_pos e, ec] at hj
        exact R.wfC i hi j hj
      · rw [if_neg e] at hj
        exact R.wfC k hk j hj
    base := base_upd R.base (R.fresh _ (.oa i hi))
    fresh := by rw [show ({ st with ns := st.ns.set i nd } : RS).ns.length = st.ns.length from el]; exact R.fresh
    szL := fun y h => by
      rw [show ({ st with ns := st.ns.set i nd } : RS).ns.length = st.ns.length from el] at h
      rw [cc]
      exact R.szL y h
    szJ := R.szJ
    szW := R.szW
    szN := by rw [show ({ st with ns := st.ns.set i nd } : RS).ns.length = st.ns.length from el]; exact R.szN
    szT := R.szT
    szM := fun j h => by
      rw [show ({ st with ns := st.ns.set i nd } : RS).ns.length = st.ns.length from el] at h
      rw [node_set hi]
      by_cases e : j = i
      · rw [if_pos e]; exact hm
      · rw [if_neg e]; exact R.szM j h }
theorem kvs_put (L : Lay) (js : List (Str × Nat)) (k : Str) (i : Nat) : putK (kvsN L js) (Sum.inr k) (.ref (L.oa i)) = kvsN L (putN js k i) := by
  unfold putK putN kvsN
  have e1 : ((js.map fun p => ((Sum.inr p.1 : Key), V.ref (L.oa p.2))).any fun kv => decide (kv.1 = (Sum.inr k : Key))) = js.any fun p => decide (p.1 = k) := by
    rw [List.any_map]
    congr 1
    funext p
    show decide ((Sum.inr p.1 : Key) = Sum.inr k) = _
    rw [key_rr]
  rw [e1]
  split
  · rw [List.map_map, List.map_map]
    congr 1
    funext p
    show (if (Sum.inr p.1 : Key) = Sum.inr k then _ else _) = _
    by_cases e : p.1 = k
    · rw [if_pos (by rw [e])]
      show _ = ((Sum.inr (if p.1 = k then (p.1, i) else p).1 : Key), V.ref (L.oa (if p.1 = k then (p.1, i) else p).2))
      rw [if_pos e]
    · rw [if_neg fun z => e (Sum.inr.inj z)]
      show _ = ((Sum.inr (if p.1 = k then (p.1, i) else p).1 : Key), V.ref (L.oa (if p.1 = k then (p.1, i) else p).2))
      rw [if_neg e]
  · rw [List.map_append]
    rfl
theorem kvs_has (L : Lay) (js : List (Str × Nat)) (k : Str) : (valV (kvsN L js) (Sum.inr k)).isSome = hasN js k := by
  rw [← valV_any]
  unfold kvsN hasN
  rw [List.any_map]
  congr 1
  funext p
  show decide ((Sum.inr p.1 : Key) = Sum.inr k) = _
  rw [key_rr]
theorem put_len (js : List (Str × Nat)) (k : Str) (i : Nat) : (putN js k i).length ≤ js.length + 1 := by
  unfold putN
  split
  · rw [List.length_map]; exact Nat.le_succ _
  · rw [List.length_append]; exact Nat.le_refl _
theorem put_wf {js : List (Str × Nat)} {k : Str} {i n : Nat} (h : ∀ p ∈ js, p.2 < n) (hi : i < n) : ∀ p ∈ putN js k i, p.2 < n := by
  intro p hp
  unfold putN at hp
  split at hp
  · obtain ⟨q, hq, rfl⟩ := List.mem_map.mp hp
    by_cases e : q.1 = k
    · rw [if_pos e]; exact hi
    · rw [if_neg e]; exact h q hq
  · rcases List.mem_append.mp hp with hp | hp
    · exact h p hp
    · rw [List.mem_singleton.mp hp]; exact hi
theorem RR.putJ (R : RR CR CS H0 H L st T) (k : Str) {i : Nat} (hi : i < st.ns.length) (hl : st.jobs.length + 1 ≤ T) : RR CR CS H0 (upd H L.jd (.dK (putK (kvsN L st.jobs) (Sum.inr k) (.ref (L.oa i))))) L { st with jobs := putN st.jobs k i } T :=
  { R with
    ob := let ⟨dy, e⟩ := R.ob; ⟨dy, upd_at e R.jobs (by intro z; cases z)⟩
    jobs := by rw [kvs_put]; exact upd_same
    walks := by rw [upd_ne R.jw.symm]; exact R.walks
    lst := fun x h => upd_at (show H (L.la x) = some (.lst (cont st L x)) from R.lst x h) R.jobs (by intro z; cases z)
    nod := fun j h => let ⟨dy, e⟩ := R.nod j h; ⟨dy, upd_at e R.jobs (by intro z; cases z)⟩
    wfJ := put_wf R.wfJ hi
    base := base_upd R.base (R.fresh _ .jd)
    szJ := Nat.le_trans (put_len _ _ _) hl }
theorem RR.putW (R : RR CR CS H0 H L st T) (k : Str) {i : Nat} (hi : i < st.ns.length) (hl : st.walks.length + 1 ≤ T) : RR CR CS H0 (upd H L.wd (.dK (putK (kvsN L st.walks) (Sum.inr k) (.ref (L.oa i))))) L { st with walks := putN st.walks k i } T :=
  { R with
    ob := let ⟨dy, e⟩ := R.ob; ⟨dy, upd_at e R.walks (by intro z; cases z)⟩
    jobs := by rw [upd_ne R.jw]; exact R.jobs
    walks := by rw [kvs_put]; exact upd_same
    lst := fun x h => upd_at (show H (L.la x) = some (.lst (cont st L x)) from R.lst x h) R.walks (by intro z; cases z)
    nod := fun j h => let ⟨dy, e⟩ := R.nod j h; ⟨dy, upd_at e R.walks (by intro z; cases z)⟩
    wfW := put_wf R.wfW hi
    base := base_upd R.base (R.fresh _ .wd)
    szW := Nat.le_trans (put_len _ _ _) hl }
/-- a new node, as yet in no list -/
def Lay.more (L : Lay) (n : Nat) (a b c : Addr) : Lay := { L with oa := fun i => if i = n then a else L.oa i, la := fun x => if x = .b n then b else if x = .c n then c else L.la x }
theorem ok_more {n : Nat} {x : LL} (h : x.ok (n + 1)) : x = .b n ∨ x = .c n ∨ (x ≠ .b n ∧ x ≠ .c n ∧ x.ok n) := by
  cases x with
  | b i =>
    have h : i < n + 1 := h
    by_cases e : i = n
    · left; rw [e]
    · right; right
      have h1 : LL.ok n (.b i) := show i < n by omega
      have h2 : LL.b i ≠ LL.b n := fun z => e (LL.b.inj z)
      have h3 : LL.b i ≠ LL.c n := by intro z; cases z
      exact ⟨h2, h3, h1⟩
  | c i =>
    have h : i < n + 1 := h
    by_cases e : i = n
    · right; left; rw [e]
    · right; right
      have h1 : LL.ok n (.c i) := show i < n by omega
      have h2 : LL.c i ≠ LL.c n := fun z => e (LL.c.inj z)
      have h3 : LL.c i ≠ LL.b n := by intro z; cases z
      exact ⟨h3, h2, h1⟩
  | g => right; right; exact ⟨(by intro z; cases z), (by intro z; cases z), trivial⟩
  | u => right; right; exact ⟨(by intro z; cases z), (by intro z; cases z), trivial⟩
  | r => right; right; exact ⟨(by intro z; cases z), (by intro z; cases z), trivial⟩
theorem ok_up {n : Nat} {x : LL} (h : x.ok n) : x.ok (n + 1) ∧ x ≠ .b n ∧ x ≠ .c n := by
  cases x with
  | b i =>
    have h : i < n := h
    have h1 : LL.ok (n + 1) (.b i) := show i < n + 1 by omega
    have h2 : LL.b i ≠ LL.b n := fun z => by
      have := LL.b.inj z
      omega
    have h3 : LL.b i ≠ LL.c n := by intro z; cases z
    exact ⟨h1, h2, h3⟩
  | c i =>
    have h : i < n := h
    have h1 : LL.ok (n + 1) (.c i) := show i < n + 1 by omega
    have h2 : LL.c i ≠ LL.c n := fun z => by
      have := LL.c.inj z
      omega
    have h3 : LL.c i ≠ LL.b n := by intro z; cases z
    exact ⟨h1, h3, h2⟩
  | g => exact ⟨trivial, (by intro z; cases z), (by intro z; cases z)⟩
  | u => exact ⟨trivial, (by intro z; cases z), (by intro z; cases z)⟩
  | r => exact ⟨trivial, (by intro z; cases z), (by intro z; cases z)⟩
section
variable {n : Nat} {a b c : Addr}
theorem more_la {x : LL} (h : x.ok n) : (L.more n a b c).la x = L.la x := by
  obtain ⟨_, h1, h2⟩ := ok_up h
  show (if x = .b n then b else if x = .c n then c else L.la x) = _
  rw [if_neg h1, if_neg h2]
theorem more_b : (L.more n a b c).la (.b n) = b := if_pos rfl
theorem more_c : (L.more n a b c).la (.c n) = c := by
  show (if LL.c n = .b n then b else if LL.c n = .c n then c else L.la _) = _
  rw [if_neg (by intro z; cases z), if_pos rfl]
theorem more_oa {i : Nat} (h : i < n) : (L.more n a b c).oa i = L.oa i := if_neg (Nat.ne_of_lt h)
theorem more_on : (L.more n a b c).oa n = a := if_pos rfl
theorem refs_more {is : List Nat} (h : ∀ i ∈ is, i < n) : refs (L.more n a b c) is = refs L is := by
  unfold refs
  refine List.map_congr_left fun i hi => ?_
  rw [more_oa (h i hi)]
theorem kvs_more {js : List (Str × Nat)} (h : ∀ p ∈ js, p.2 < n) : kvsN (L.more n a b c) js = kvsN L js := by
  unfold kvsN
  refine List.map_congr_left fun p hp => ?_
  rw [more_oa (h p hp)]
end
theorem node_app {st : RS} {nd : Node} {i : Nat} : ({ st with ns := st.ns ++ [nd] } : RS).node i = if i = st.ns.length then nd else st.node i := by
  show (st.ns ++ [nd]).getD i default = _
  rw [List.getD_eq_getElem?_getD]
  by_cases e : i = st.ns.length
  · subst e
    rw [if_pos rfl, List.getElem?_concat_length]
    rfl
  · rw [if_neg e]
    by_cases h : i < st.ns.length
    · rw [List.getElem?_append_left h, ← List.getD_eq_getElem?_getD]
      rfl
    · rw [List.getElem?_eq_none (by rw [List.length_append, List.length_singleton]; omega)]
      show default = st.ns.getD i default
      rw [List.getD_eq_getElem?_getD, List.getElem?_eq_none (by omega)]
      rfl
theorem RR.node (R : RR CR CS H0 H L st T) (s : Same H H') {a b c dx : Addr} {nd : Node} (fa : H a = none) (fb : H b = none) (fc : H c = none) (bc : b ≠ c) (ha : H' a = some (.ins CS dx (flds nd b c))) (hb : H' b = some (.lst [])) (hc : H' c = some (.lst []))
    (hT : st.ns.length + 1 ≤ T) (nb : nd.body = []) (nc : nd.behind = []) (hm : nd.mark.length ≤ 100) : RR CR CS H0 H' (L.more st.ns.length a b c) { st with ns := st.ns ++ [nd] } T := by
  have el : ({ st with ns := st.ns ++ [nd] } : RS).ns.length = st.ns.length + 1 := by show (st.ns ++ [nd]).length = _; rw [List.length_append]; rfl
  have ola : ∀ x, x.ok st.ns.length → H' (L.la x) = some (.lst (cont st L x)) := fun x h => s _ _ (R.lst x h)
  have nla : ∀ x, x.ok st.ns.length → L.la x ≠ b ∧ L.la x ≠ c := fun x h => ⟨ne_of_none (R.lst x h) fb, ne_of_none (R.lst x h) fc⟩
  have noa : ∀ i, i < st.ns.length → L.oa i ≠ a := fun i h => let ⟨_, e⟩ := R.nod i h; ne_of_none e fa
  have cc : ∀ x, x.ok st.ns.length → cont ({ st with ns := st.ns ++ [nd] } : RS) (L.more st.ns.length a b c) x = cont st L x := fun x h => by
    cases x with
    | b i =>
      have h : i < st.ns.length := h
      show refs _ (RS.node _ i).body = _
      rw [node_app, if_neg (Nat.ne_of_lt h), refs_more (R.wfB i h)]
      rfl
    | c i =>
      have h : i < st.ns.length := h
      show refs _ (RS.node _ i).behind = _
      rw [node_app, if_neg (Nat.ne_of_lt h), refs_more (R.wfC i h)]
      rfl
    | r => exact refs_more R.wfA
    | _ => rfl
  have cb : cont ({ st with ns := st.ns ++ [nd] } : RS) (L.more st.ns.length a b c) (.b st.ns.length) = [] := by
    show refs _ (RS.node _ _).body = _
    rw [node_app, if_pos rfl, nb]
    rfl
  have cd : cont ({ st with ns := st.ns ++ [nd] } : RS) (L.more st.ns.length a b c) (.c st.ns.length) = [] := by
    show refs _ (RS.node _ _).behind = _
    rw [node_app, if_pos rfl, nc]
    rfl
  exact {
    ob := by
      obtain ⟨dy, e⟩ := R.ob
      refine ⟨dy, ?_⟩
      have : rflds (L.more st.ns.length a b c) st.deepest = rflds L st.deepest := by
        unfold rflds
        rw [more_la (L := L) (x := .g) trivial, more_la (L := L) (x := .u) trivial, more_la (L := L) (x := .r) trivial]
        rfl
      show H' L.r = some (.ins CR dy (rflds (L.more st.ns.length a b c) st.deepest))
      rw [this]
      exact s _ _ e
    jobs := by
      show H' L.jd = some (.dK (kvsN _ st.jobs))
      rw [kvs_more R.wfJ]
      exact s _ _ R.jobs
    walks := by
      show H' L.wd = some (.dK (kvsN _ st.walks))
      rw [kvs_more R.wfW]
      exact s _ _ R.walks
    lst := fun x h => by
      rw [el] at h
      rcases ok_more h with e | e | ⟨_, _, h⟩
      · subst e; rw [cb, more_b]; exact hb
      · subst e; rw [cd, more_c]; exact hc
      · rw [cc x h, more_la h]; exact ola x h
    nod := fun i h => by
      rw [el] at h
      rw [node_app]
      by_cases e : i = st.ns.length
      · subst e
        rw [if_pos rfl, more_on, more_b, more_c]
        exact ⟨dx, ha⟩
      · have h : i < st.ns.length := by omega
        rw [if_neg e, more_oa h, more_la (x := .b i) h, more_la (x := .c i) h]
        obtain ⟨dy, q⟩ := R.nod i h
        exact ⟨dy, s _ _ q⟩
    jw := R.jw
    linj := fun x y hx hy e => by
      rw [el] at hx hy
      rcases ok_more hx with ex | ex | ⟨_, _, kx⟩
      · subst ex
        rcases ok_more hy with ey | ey | ⟨_, _, ky⟩
        · exact ey.symm
        · subst ey; rw [more_b, more_c] at e; exact absurd e bc
        · rw [more_b, more_la ky] at e; exact absurd e.symm (nla y ky).1
      · subst ex
        rcases ok_more hy with ey | ey | ⟨_, _, ky⟩
        · subst ey; rw [more_b, more_c] at e; exact absurd e.symm bc
        · exact ey.symm
        · rw [more_c, more_la ky] at e; exact absurd e.symm (nla y ky).2
      · rcases ok_more hy with ey | ey | ⟨_, _, ky⟩
        · subst ey; rw [more_b, more_la kx] at e; exact absurd e (nla x kx).1
        · subst ey; rw [more_c, more_la kx] at e; exact absurd e (nla x kx).2
        · rw [more_la kx, more_la ky] at e; exact R.linj x y kx ky e
    oinj := fun i j hi hj e => by
      rw [el] at hi hj
      by_cases ei : i = st.ns.length
      · by_cases ej : j = st.ns.length
        · rw [ei, ej]
        · have hj : j < st.ns.length := by omega
          rw [ei, more_on, more_oa hj] at e
          exact absurd e.symm (noa j hj)
      · have hi : i < st.ns.length := by omega
        by_cases ej : j = st.ns.length
        · rw [ej, more_on, more_oa hi] at e
          exact absurd e (noa i hi)
        · have hj : j < st.ns.length := by omega
          rw [more_oa hi, more_oa hj] at e
          exact R.oinj i j hi hj e
    onr := fun i h => by
      rw [el] at h
      by_cases e : i = st.ns.length
      · subst e
        rw [more_on]
        obtain ⟨dy, q⟩ := R.ob
        exact (ne_of_none q fa).symm
      · have h : i < st.ns.length := by omega
        rw [more_oa h]
        exact R.onr i h
    wfA := fun i h => by rw [el]; exact Nat.lt_succ_of_lt (R.wfA i h)
    wfJ := fun p h => by rw [el]; exact Nat.lt_succ_of_lt (R.wfJ p h)
    wfW := fun p h => by rw [el]; exact Nat.lt_succ_of_lt (R.wfW p h)
    wfB := fun k hk i hi => by
      rw [el] at hk ⊢
      rw [node_app] at hi
      by_cases e : k = st.ns.length
      · rw [if_pos e, nb] at hi
        cases hi
      · rw [if_neg e] at hi
        exact Nat.lt_succ_of_lt (R.wfB k (by omega) i hi)
    wfC := fun k hk i hi => by
      rw [el] at hk ⊢
      rw [node_app] at hi
      by_cases e : k = st.ns.length
      · rw [if_pos e, nc] at hi
        cases hi
      · rw [if_neg e] at hi
        exact Nat.lt_succ_of_lt (R.wfC k (by omega) i hi)
    base := R.base.trans s
    fresh := fun x hx => by
      rw [el] at hx
      cases hx with
      | r => exact R.fresh _ .r
      | jd => exact R.fresh _ .jd
      | wd => exact R.fresh _ .wd
      | la y hy =>
        rcases ok_more hy with e | e | ⟨_, _, h⟩
        · subst e; rw [more_b]; exact R.base.free fb
        · subst e; rw [more_c]; exact R.base.free fc
        · rw [more_la h]; exact R.fresh _ (.la y h)
      | oa i hi =>
        by_cases e : i = st.ns.length
        · subst e; rw [more_on]; exact R.base.free fa
        · have h : i < st.ns.length := by omega
          rw [more_oa h]; exact R.fresh _ (.oa i h)
    szL := fun x h => by
      rw [el] at h
      rcases ok_more h with e | e | ⟨_, _, h⟩
      · subst e; rw [cb]; exact Nat.zero_le _
      · subst e; rw [cd]; exact Nat.zero_le _
      · rw [cc x h]; exact R.szL x h
    szJ := R.szJ
    szW := R.szW
    szN := by rw [el]; exact hT
    szT := R.szT
    szM := fun i h => by
      rw [el] at h
      rw [node_app]
      by_cases e : i = st.ns.length
      · rw [if_pos e]; exact hm
      · rw [if_neg e]; exact R.szM i (by omega) }
end
end Ly
end
section
set_option Elab.async false
set_option linter.all false
set_option maxRecDepth 100000
/-! The Reader's methods. -/
namespace Ly
open PySem PySem.Spec PyProof.Rows L2

/-- the class Reader as the top has made it -/
structure RdC (K : PySem.W.Frag) (mg : Str → Option Value) (C : Addr) : Prop where
  cl : Cls K C
  g : mg "Reader" = some (.ref C)
  j : NoAttr K C "jobs"
  w : NoAttr K C "walks"
  ga : NoAttr K C "gates"
  be : NoAttr K C "begun"
  de : NoAttr K C "deepest"
  ar : NoAttr K C "around"
section
variable {X : Cx} {e e2 : Expr} {te te2 : TE} {p ap : Pos} {pos : Pos} {es : List Expr} {ta : TA}
/-- xs.append(e) -/
theorem pAppend (ho : PE X e te) (he : PE X e2 te2)
    (hbase : attributeBase e "append" X.env (eval e X.env) = eval e X.env := by rfl)
    (hfew : ((backTo pos (starEach [e2] X.env)).all (fun x => !x.1) && (backToKw pos (keywordEach [] X.env)).all (fun x => x.1.isSome) && decide ([e2].length + ([] : List Keyword).length + (if ([] : List Keyword).isEmpty then 0 else 1) < 30)) = true := by rfl)
    (hline : (ap.endLine == pos.line) = true := by rfl) (hs : starEach [e2] X.env = (false, eval e2 X.env) :: starEach [] X.env := by rfl) (hplain : (backTo pos (starEach [] X.env)).any (·.1) = false := by rfl) :
    PE X (.Call (.Attribute e "append" ap) [e2] [] pos) (tBM X.K "list" rAppend te (tCons te2 tNil)) :=
  pe_bm PySem.F.plainAttrs_list PySem.F.slot_list_append PySem.F.type_list_append mt_append ho (pa_cons he pa_nil hs) hbase hfew hline hs hplain
theorem pAny (hc : X.calm = true) (hm : X.mg "any" = none) (he' : PE X e te) (hg : Gl X "any" := by rfl) (he : starEach [e] X.env = (false, eval e X.env) :: starEach [] X.env := by rfl) : PE X (.Call (.Name "any" p) [e] [] pos) (tCB (rAny X.K) (tCons te tNil)) :=
  pe_callB (cr_any hc) hg hm PyProof.Rows.boot_any (pa_cons he' pa_nil he) (by decide) (by decide) he
end
theorem at_last {xs : List V} (h : xs ≠ []) {v : V} (e : xs.getLast? = some v) : atI xs (-1) = some v := by
  obtain ⟨ys, y, rfl⟩ : ∃ ys y, xs = ys ++ [y] := ⟨xs.dropLast, xs.getLast h, (List.dropLast_concat_getLast h).symm⟩
  rw [List.getLast?_concat] at e
  rw [← Option.some.inj e]
  exact atI_last ys y
theorem refs_last (L : Lay) {is : List Nat} (h : is ≠ []) : atI (refs L is) (-1) = some (.ref (L.oa (is.getLastD 0))) := by
  refine at_last (by unfold refs; simpa using h) ?_
  unfold refs
  rw [List.getLast?_map]
  rw [List.getLastD_eq_getLast?]
  cases e : is.getLast? with
  | none => exact absurd (List.getLast?_eq_none_iff.mp e) h
  | some i => rfl
theorem refs_head (L : Lay) {is : List Nat} (h : is ≠ []) : atI (refs L is) 0 = some (.ref (L.oa (is.headD 0))) := by
  cases is with
  | nil => exact absurd rfl h
  | cons i r => exact atI_nat (j := 0) rfl
theorem last_mem {st : RS} (h : st.around ≠ []) : st.last ∈ st.around := by
  unfold RS.last
  rw [List.getLastD_eq_getLast?]
  cases e : st.around.getLast? with
  | none => exact absurd (List.getLast?_eq_none_iff.mp e) h
  | some i => exact List.mem_of_getLast? e
theorem head_mem {st : RS} (h : st.around ≠ []) : st.around.headD 0 ∈ st.around := by
  cases e : st.around with
  | nil => exact absurd e h
  | cons i r => exact List.mem_cons_self ..
theorem tru_str {K : PySem.W.Frag} {H : Hp} {z : Str} (h : z.length ≤ 100) : TruV K (.str z) H (decide (z ≠ "")) := by
  refine ⟨Nat.le_trans h (by decide), ?_⟩
  by_cases e : z = ""
  · subst e; kernel_rfl
  · rw [decide_eq_true e]
    have : z.length ≠ 0 := fun q => e (by
      obtain ⟨⟨l⟩⟩ := z
      cases l with
      | nil => kernel_rfl
      | cons a b => exact absurd q (Nat.succ_ne_zero _))
    have h2 : ((z.length : Int) == 0) = false := by simpa using this
    show true = (!((z.length : Int) == 0))
    rw [h2]
    rfl
/-- what is wanted behind a row that is taken or not -/
def Kont (CR CS : Addr) (H0 : Hp) (L : Lay) (st : RS) (T : Nat) (res : Option RS) (Q : VK) : Prop := match res with
  | none => ∀ H', RR CR CS H0 H' L st T → Q (.bl false) H'
  | some st' => ∀ H' L', L'.r = L.r → RR CR CS H0 H' L' st' T → Q (.bl true) H'
theorem Kont.no {CR CS : Addr} {H0 : Hp} {L : Lay} {st : RS} {T : Nat} {res : Option RS} {Q : VK} (k : Kont CR CS H0 L st T res Q) (e : res = none) {H' : Hp} (R : RR CR CS H0 H' L st T) : Q (.bl false) H' := by
  subst e; exact k H' R
theorem Kont.yes {CR CS : Addr} {H0 : Hp} {L : Lay} {st : RS} {T : Nat} {res : Option RS} {Q : VK} (k : Kont CR CS H0 L st T res Q) {st' : RS} (e : res = some st') {H' : Hp} {L' : Lay} (er : L'.r = L.r) (R : RR CR CS H0 H' L' st' T) : Q (.bl true) H' := by
  subst e; exact k H' L' er R

section
variable {P : Program} {w : World} {K : PySem.W.Frag} {mg : Str → Option Value} {base : Heap} {CR CS : Addr}
/-! ### _keeps -/
def spKeeps (CS : Addr) : Sp := fun vs H Q _ => ∃ (a dx b c : Addr) (nd : Node) (z : Str), vs = [.ref a, .str z] ∧ H a = some (.ins CS dx (flds nd b c)) ∧ Q (.bl (keepsM nd z)) H
theorem sc_keeps : FnScope ["block", "walk"] ["block", "walk"] (defScope t_keeps) := ⟨rfl, rfl, rfl, by decide +kernel, rfl, by decide +kernel, by decide +kernel⟩
theorem ok_keeps {f : Addr} {fd : FuncData} (F : Fun K "_keeps" "_keeps" t_keeps f fd) (S : StC K mg CS) : FnOk P w K mg base CX0 1 f fd ["block", "walk"] (spKeeps CS) := by
  refine F.ok sc_keeps (fun vs H Q E h => ?_) (fun cdv A outer s H vs Q E hr h => ?_)
  · obtain ⟨a, dx, b, c, nd, z, rfl, _⟩ := h
    rfl
  · obtain ⟨a, dx, b, c, nd, z, rfl, ha, k⟩ := h
    refine ⟨_, pss_one (ps_ret (pe_and (pe_cmpR op_eq (pe_fld (pv 0) rfl) pe_str (nomark _)) (pe_one (pe_cmpR op_eq (pe_fld (pv 0) rfl) (pv 1) (nomark _))))), ?_⟩
    refine ⟨_, rfl, a, CS, dx, _, _, rfl, ha, S.cl, S.h, rfl, rfl, _, rfl, ?_⟩
    by_cases e : nd.how = "kept"
    · refine iteT' (decide_eq_true (by rw [e])) ?_
      refine ⟨_, rfl, a, CS, dx, _, _, rfl, ha, S.cl, S.n, rfl, _, rfl, rfl, ?_⟩
      have q : keepsM nd z = decide (V.str nd.name = V.str z) := by
        unfold keepsM
        rw [decide_eq_true e, Bool.true_and]
        by_cases h : nd.name = z
        · rw [decide_eq_true h, decide_eq_true (by rw [h])]
        · rw [decide_eq_false h, decide_eq_false fun q => h (V.str.inj q)]
      rw [q] at k
      exact k
    · refine iteF' (decide_eq_false fun q => e (V.str.inj q)) ?_
      have q : keepsM nd z = false := by unfold keepsM; rw [decide_eq_false e, Bool.false_and]
      rw [q] at k
      exact k
/-! ### Reader() -/
def spRInit (CR CS : Addr) : Sp := fun vs H Q _ => ∃ (p dx : Addr) (H0 : Hp), vs = [.ref p] ∧ H p = some (.ins CR dx []) ∧ Same H0 H ∧ H0 p = none ∧ ∀ (H' : Hp) (L : Lay) (T : Nat), L.r = p → T ≤ 100000 → RR CR CS H0 H' L RS.start T → Q .non H'
theorem sc_RInit : FnScope ["self"] ["self"] (defScope t_Reader_init) := ⟨rfl, rfl, rfl, by decide +kernel, rfl, by decide +kernel, by decide +kernel⟩
theorem ok_RInit {f : Addr} {fd : FuncData} (F : Fun K "__init__" "Reader.__init__" t_Reader_init f fd) (R : RdC K mg CR) : FnOk P w K mg base CX0 1 f fd ["self"] (spRInit CR CS) := by
  refine F.ok sc_RInit (fun vs H Q E h => ?_) (fun cdv A outer s H vs Q E hr h => ?_)
  · obtain ⟨p, dx, H0, rfl, _⟩ := h
    rfl
  · obtain ⟨p, dx, H0, rfl, hp, hs, hp0, k⟩ := h
    refine ⟨_, pss_cons (ps_fld (pv 0) pe_dnewK rfl) (pss_cons (ps_fld (pv 0) pe_dnewK rfl) (pss_cons (ps_fld (pv 0) (pe_lst pa_nil) rfl) (pss_cons (ps_fld (pv 0) (pe_lst pa_nil) rfl) (pss_cons (ps_fld (pv 0) pe_int rfl) (pss_one (ps_fld (pv 0) (pe_lst pa_nil) rfl)))))), ?_⟩
    intro jd nj
    have pj : p ≠ jd := ne_of_none hp nj
    refine ⟨_, rfl, p, CR, dx, _, rfl, by rw [upd_ne pj]; exact hp, R.cl, R.j, (by show 0 < 1000; decide), ?_⟩
    intro wd nw
    have pw : p ≠ wd := ne_of_none upd_same nw
    have jw : jd ≠ wd := ne_of_none (show upd (upd H jd (.dK [])) p _ jd = some (.dK []) by rw [upd_ne pj.symm, upd_same]) nw
    refine ⟨_, rfl, p, CR, dx, _, rfl, by rw [upd_ne pw]; exact upd_same, R.cl, R.w, (by show 1 < 1000; decide), ?_⟩
    refine ⟨by show 0 ≤ sizeLine; decide, fun ga ng => ?_⟩
    have pg : p ≠ ga := ne_of_none upd_same ng
    have jg : jd ≠ ga := by intro z; rw [← z, upd_ne pj.symm, upd_ne jw, upd_ne pj.symm, upd_same] at ng; cases ng
    have wg : wd ≠ ga := by intro z; rw [← z, upd_ne pw.symm, upd_same] at ng; cases ng
    refine ⟨_, rfl, p, CR, dx, _, rfl, by rw [upd_ne pg]; exact upd_same, R.cl, R.ga, (by show 2 < 1000; decide), ?_⟩
    refine ⟨by show 0 ≤ sizeLine; decide, fun be nb => ?_⟩
    have pb : p ≠ be := ne_of_none upd_same nb
    have jb : jd ≠ be := by intro z; rw [← z, upd_ne pj.symm, upd_ne jg, upd_ne pj.symm, upd_ne jw, upd_ne pj.symm, upd_same] at nb; cases nb
    have wb : wd ≠ be := by intro z; rw [← z, upd_ne pw.symm, upd_ne wg, upd_ne pw.symm, upd_same] at nb; cases nb
    have gb : ga ≠ be := by intro z; rw [← z, upd_ne pg.symm, upd_same] at nb; cases nb
    refine ⟨_, rfl, p, CR, dx, _, rfl, by rw [upd_ne pb]; exact upd_same, R.cl, R.be, (by show 3 < 1000; decide), ?_⟩
    refine ⟨_, rfl, p, CR, dx, _, rfl, upd_same, R.cl, R.de, (by show 4 < 1000; decide), ?_⟩
    rw [upd_upd]
    refine ⟨by show 0 ≤ sizeLine; decide, fun ar na => ?_⟩
    have par : p ≠ ar := ne_of_none upd_same na
    have ja : jd ≠ ar := by intro z; rw [← z, upd_ne pj.symm, upd_ne jb, upd_ne pj.symm, upd_ne jg, upd_ne pj.symm, upd_ne jw, upd_ne pj.symm, upd_same] at na; cases na
    have wa : wd ≠ ar := by intro z; rw [← z, upd_ne pw.symm, upd_ne wb, upd_ne pw.symm, upd_ne wg, upd_ne pw.symm, upd_same] at na; cases na
    have gaa : ga ≠ ar := by intro z; rw [← z, upd_ne pg.symm, upd_ne gb, upd_ne pg.symm, upd_same] at na; cases na
    have ba : be ≠ ar := by intro z; rw [← z, upd_ne pb.symm, upd_same] at na; cases na
    refine ⟨_, rfl, p, CR, dx, _, rfl, by rw [upd_ne par]; exact upd_same, R.cl, R.ar, (by show 5 < 1000; decide), ?_⟩
    have hj : H jd = none := nj
    have hw : H wd = none := by rw [upd_ne pw.symm, upd_ne jw.symm] at nw; exact nw
    have hg : H ga = none := by rw [upd_ne pg.symm, upd_ne wg.symm, upd_ne pg.symm, upd_ne jg.symm] at ng; exact ng
    have hb : H be = none := by rw [upd_ne pb.symm, upd_ne gb.symm, upd_ne pb.symm, upd_ne wb.symm, upd_ne pb.symm, upd_ne jb.symm] at nb; exact nb
    have ha : H ar = none := by rw [upd_ne par.symm, upd_ne ba.symm, upd_ne par.symm, upd_ne gaa.symm, upd_ne par.symm, upd_ne wa.symm, upd_ne par.symm, upd_ne ja.symm] at na; exact na
    refine k _ ⟨p, jd, wd, fun _ => 0, fun x => match x with | .g => ga | .u => be | _ => ar⟩ 0 rfl (by decide) ?_
    exact {
      ob := ⟨dx, Eq.trans upd_same (by kernel_rfl)⟩
      jobs := by rw [upd_ne pj.symm, upd_ne ja, upd_ne pj.symm, upd_ne jb, upd_ne pj.symm, upd_ne jg, upd_ne pj.symm, upd_ne jw, upd_ne pj.symm, upd_same]; rfl
      walks := by rw [upd_ne pw.symm, upd_ne wa, upd_ne pw.symm, upd_ne wb, upd_ne pw.symm, upd_ne wg, upd_ne pw.symm, upd_same]; rfl
      lst := fun x h => by
        cases x with
        | g => show upd _ _ _ ga = _; rw [upd_ne pg.symm, upd_ne gaa, upd_ne pg.symm, upd_ne gb, upd_ne pg.symm, upd_same]; rfl
        | u => show upd _ _ _ be = _; rw [upd_ne pb.symm, upd_ne ba, upd_ne pb.symm, upd_same]; rfl
        | r => show upd _ _ _ ar = _; rw [upd_ne par.symm, upd_same]; rfl
        | b i => exact absurd (show i < 0 from h) (Nat.not_lt_zero _)
        | c i => exact absurd (show i < 0 from h) (Nat.not_lt_zero _)
      nod := fun i h => absurd (show i < 0 from h) (Nat.not_lt_zero _)
      jw := jw
      linj := fun x y hx hy e => by
        cases x with
        | b i => exact absurd (show i < 0 from hx) (Nat.not_lt_zero _)
        | c i => exact absurd (show i < 0 from hx) (Nat.not_lt_zero _)
        | g => cases y with
          | b i => exact absurd (show i < 0 from hy) (Nat.not_lt_zero _)
          | c i => exact absurd (show i < 0 from hy) (Nat.not_lt_zero _)
          | g => rfl
          | u => exact absurd e gb
          | r => exact absurd e gaa
        | u => cases y with
          | b i => exact absurd (show i < 0 from hy) (Nat.not_lt_zero _)
          | c i => exact absurd (show i < 0 from hy) (Nat.not_lt_zero _)
          | g => exact absurd e.symm gb
          | u => rfl
          | r => exact absurd e ba
        | r => cases y with
          | b i => exact absurd (show i < 0 from hy) (Nat.not_lt_zero _)
          | c i => exact absurd (show i < 0 from hy) (Nat.not_lt_zero _)
          | g => exact absurd e.symm gaa
          | u => exact absurd e.symm ba
          | r => rfl
      oinj := fun i j h _ _ => absurd (show i < 0 from h) (Nat.not_lt_zero _)
      onr := fun i h => absurd (show i < 0 from h) (Nat.not_lt_zero _)
      wfA := fun i h => by cases h
      wfJ := fun i h => by cases h
      wfW := fun i h => by cases h
      wfB := fun i h => absurd (show i < 0 from h) (Nat.not_lt_zero _)
      wfC := fun i h => absurd (show i < 0 from h) (Nat.not_lt_zero _)
      base := fun b o e => by
        have e' := hs b o e
        have n0 : b ≠ p := ne_of_none e hp0
        rw [upd_ne n0, upd_ne (ne_of_none e' ha), upd_ne n0, upd_ne (ne_of_none e' hb), upd_ne n0, upd_ne (ne_of_none e' hg), upd_ne n0, upd_ne (ne_of_none e' hw), upd_ne n0, upd_ne (ne_of_none e' hj)]
        exact e'
      fresh := fun b h => by
        cases h with
        | r => exact hp0
        | jd => exact hs.free hj
        | wd => exact hs.free hw
        | la x h => cases x with
          | b i => exact absurd (show i < 0 from h) (Nat.not_lt_zero _)
          | c i => exact absurd (show i < 0 from h) (Nat.not_lt_zero _)
          | g => exact hs.free hg
          | u => exact hs.free hb
          | r => exact hs.free ha
        | oa i h => exact absurd (show i < 0 from h) (Nat.not_lt_zero _)
      szL := fun x h => by
        cases x with
        | b i => exact absurd (show i < 0 from h) (Nat.not_lt_zero _)
        | c i => exact absurd (show i < 0 from h) (Nat.not_lt_zero _)
        | g => exact Nat.le_refl _
        | u => exact Nat.le_refl _
        | r => exact Nat.le_refl _
      szJ := Nat.le_refl _
      szW := Nat.le_refl _
      szN := Nat.le_refl _
      szT := by decide
      szM := fun i h => absurd (show i < 0 from h) (Nat.not_lt_zero _) }
theorem mark_new (ps : List Str) : (nodeOf ps).mark.length ≤ 100 := by show (Str.ofString "").length ≤ 100; decide +kernel
/-! ### _define -/
def spDefine (K : PySem.W.Frag) (CR CS : Addr) : Sp := fun vs H Q _ => ∃ (a : Addr) (ps : List Str) (H0 : Hp) (L : Lay) (st : RS) (T : Nat), vs = [.ref L.r, .ref a] ∧ RR CR CS H0 H L st T ∧ T + 1 ≤ 100000 ∧ SqL K H a (ps.map V.str) ∧ RowOk ps ∧ 1 < ps.length ∧ Kont CR CS H0 L st (T + 1) (defineM st ps) Q
theorem sc_define : FnScope ["self", "parts", "earlier"] ["self", "parts"] (defScope t_Reader_define) := ⟨rfl, rfl, rfl, by decide +kernel, rfl, by decide +kernel, by decide +kernel⟩
theorem dget_str {H : Hp} {d : Addr} {L : Lay} {js : List (Str × Nat)} (e : H d = some (.dK (kvsN L js))) (z : Str) : DGet H d (.str z) (valV (kvsN L js) (Sum.inr z)) := DGet.k (k := Sum.inr z) e
theorem ok_define {f fS : Addr} {fd fdS : FuncData} (F : Fun K "_define" "Reader._define" t_Reader_define f fd) (R : RdC K mg CR) (S : StC K mg CS) (GS : FnOk P w K mg base CX0 1 fS fdS ["self", "parts"] (spStep K CS)) (MS : Mk K CS fS) (bS : Binds K fdS ["self", "parts"] []) :
    FnOk P w K mg base CX0 3 f fd ["self", "parts"] (spDefine K CR CS) := by
  refine F.ok sc_define (fun vs H Q E h => ?_) (fun cdv A outer s H vs Q E hr h => ?_)
  · obtain ⟨a, ps, H0, L, st, T, rfl, _⟩ := h
    rfl
  · obtain ⟨a, ps, H0, L, st, T, rfl, RR0, hT, hq, ok, h1, k⟩ := h
    have nd := sc_define.nd
    have hu := hu_of hr
    refine ⟨_, pss_cons (ps_set (i := 2) nd rfl (Or.inl rfl) (pe_ifExp (pt_cmpR op_eq (pe_ix ix_list (pv 1) pe_int (fun _ _ => rfl)) pe_str (nomark _)) (pe_fld (pv 0) rfl) (pe_fld (pv 0) rfl)))
      (pss_cons (ps_if (PW.pt (pw_or (pt_truth (pe_fld (pv 0) rfl) (by intro _; rfl)) (pw_or1 (pt_cmp (pc_din hu (pe_ix ix_list (pv 1) pe_int (fun _ _ => rfl)) (pv 2)))))) (pss_one (ps_ret pe_bl)) pss_nil)
      (pss_cons (ps_expr (pAppend (pe_fld (pv 0) rfl) (pe_make MS GS hr rfl S.g bS .nil pass0 (pa_cons (pv 1) pa_nil))))
      (pss_one (ps_ret pe_bl)))), ?_⟩
    have h0 : 0 < ps.length := by omega
    obtain ⟨dx, hob⟩ := RR0.ob
    refine ⟨_, rfl, a, _, _, _, rfl, rfl, hq, at_str h0, rfl, _, rfl, ?_⟩
    -- which dict stands in slot 2
    have both : ∀ (d : Addr) (js : List (Str × Nat)), H d = some (.dK (kvsN L js)) → hasN js (ps.getD 1 "") = hasN (if ps.getD 0 "" = "job" then st.jobs else st.walks) (ps.getD 1 "") →
        tSeq (tIfS (tOr (fun σ H Q => tFld K (tVar 0) "around" σ H fun x H' => ∃ k, TruV K x H' k ∧ Q k H') (tB (tDIn (tOp (rIxL K) (tVar 1) (tC (.int 1))) (tVar 2)))) (tRet (tC (.bl false))) tNext)
          (tSeq (tDrop (tBM K "list" rAppend (tFld K (tVar 0) "around") (tCons (tMake CS (spStep K CS) [] E0 (tCons (tVar 1) tNil)) tNil))) (tRet (tC (.bl true)))) { nx := fun x H' => Q V.non H', rt := Q } [some (.ref L.r), some (.ref a), some (.ref d)] H := by
      intro d js hd hj
      refine ⟨_, rfl, L.r, CR, dx, _, _, rfl, hob, R.cl, R.ar, rfl, !(refs L st.around).isEmpty, .inl ⟨_, SqL.of (RR0.lst .r trivial), rfl⟩, ?_⟩
      by_cases ea : st.around = []
      · refine iteF' (by rw [ea]; rfl) ?_
        refine ⟨_, rfl, a, _, _, _, rfl, rfl, hq, at_str h1, _, rfl, d, _, rfl, dget_str hd _, _, rfl, ?_⟩
        rw [kvs_has, hj]
        cases en : hasN (if ps.getD 0 "" = "job" then st.jobs else st.walks) (ps.getD 1 "") with
        | true =>
          refine iteT ?_
          exact k.no (by unfold defineM; rw [if_pos (.inr en)]) (RR0.more hT)
        | false =>
          refine iteF ?_
          refine ⟨_, rfl, L.r, CR, dx, _, _, rfl, hob, R.cl, R.ar, rfl, .inl ⟨rfl, _, SqL.of (RR0.lst .r trivial)⟩, _, rfl, ?_⟩
          intro x dy nx ny nxy
          have s1 : Same H (upd (upd H dy (.own x)) x (.ins CS dy [])) := fun b o e => by rw [upd_ne (ne_of_none e nx), upd_ne (ne_of_none e ny)]; exact e
          refine ⟨x, dy, a, ps, rfl, upd_same, s1.seq hq, ok, fun H' b c fb fc bc ha hb hc kp => ⟨rfl, ?_⟩⟩
          have s2 : Same H H' := fun b o e => kp b o (s1 b o e) (ne_of_none e nx)
          have R1 := (RR0.more hT).node s2 nx (s1.free fb) (s1.free fc) bc ha hb hc (by have := RR0.szN; omega) rfl rfl (mark_new ps)
          have hr1 := R1.lst .r trivial
          rw [more_la (L := L) (x := .r) trivial] at hr1
          refine ⟨L.la .r, _, _, rfl, rfl, hr1, ?_, ?_⟩
          · have := R1.szL .r trivial
            have : (100000 : Nat) < sizeLine := by decide
            omega
          · have e0 : defineM st ps = some { st with ns := st.ns ++ [nodeOf ps], around := st.around ++ [st.ns.length] } := by
              unfold defineM
              rw [if_neg]
              rintro (z | z)
              · exact z ea
              · rw [en] at z
                cases z
            refine k.yes e0 (L' := L.more st.ns.length x b c) rfl ?_
            have R2 := R1.list .r trivial { st with ns := st.ns ++ [nodeOf ps], around := st.around ++ [st.ns.length] } rfl rfl rfl rfl (fun _ _ _ _ => rfl) (fun _ _ => rfl) (fun y _ ne => by cases y <;> first | rfl | exact absurd rfl ne) (by rw [ea]; show 1 ≤ _; omega)
              (fun i hi => by
                rw [ea] at hi
                have : i = st.ns.length := by simpa using hi
                show i < (st.ns ++ [nodeOf ps]).length
                rw [List.length_append, this]
                exact Nat.lt_succ_self _) R1.wfB R1.wfC
            rw [more_la (L := L) (x := .r) trivial] at R2
            have ec : cont ({ st with ns := st.ns ++ [nodeOf ps], around := st.around ++ [st.ns.length] } : RS) (L.more st.ns.length x b c) .r = cont ({ st with ns := st.ns ++ [nodeOf ps] } : RS) (L.more st.ns.length x b c) .r ++ [V.ref x] := by
              show refs _ (st.around ++ [st.ns.length]) = refs _ st.around ++ _
              unfold refs
              rw [List.map_append]
              show _ ++ [V.ref ((L.more st.ns.length x b c).oa st.ns.length)] = _
              rw [more_on]
            rw [ec] at R2
            exact R2
      · refine iteT' (by cases e : st.around with | nil => exact absurd e ea | cons i r => rfl) ?_
        exact k.no (by unfold defineM; rw [if_pos (.inl ea)]) (RR0.more hT)
    by_cases c1 : ps.getD 0 "" = "job"
    · refine iteT' (decide_eq_true (by rw [c1])) ?_
      exact ⟨_, rfl, L.r, CR, dx, _, _, rfl, hob, R.cl, R.j, rfl, both L.jd st.jobs RR0.jobs (by rw [if_pos c1])⟩
    · refine iteF' (decide_eq_false fun q => c1 (V.str.inj q)) ?_
      exact ⟨_, rfl, L.r, CR, dx, _, _, rfl, hob, R.cl, R.w, rfl, both L.wd st.walks RR0.walks (by rw [if_neg c1])⟩
theorem szline {n T : Nat} (h : n ≤ T) (hT : T ≤ 100000) : n < sizeLine := Nat.lt_of_le_of_lt (Nat.le_trans h hT) (by decide)
theorem kvs_len {L : Lay} {js : List (Str × Nat)} : (kvsN L js).length = js.length := List.length_map _
/-! ### _mark -/
def spMark (CR CS : Addr) : Sp := fun vs H Q _ => ∃ (z : Str) (H0 : Hp) (L : Lay) (st : RS) (T : Nat), vs = [.ref L.r, .str z] ∧ RR CR CS H0 H L st T ∧ st.around ≠ [] ∧ z.length ≤ 100 ∧ Kont CR CS H0 L st T (markM st z) Q
theorem sc_mark : FnScope ["self", "word", "block"] ["self", "word"] (defScope t_Reader_mark) := ⟨rfl, rfl, rfl, by decide +kernel, rfl, by decide +kernel, by decide +kernel⟩
theorem ok_mark {f : Addr} {fd : FuncData} (F : Fun K "_mark" "Reader._mark" t_Reader_mark f fd) (R : RdC K mg CR) (S : StC K mg CS) : FnOk P w K mg base CX0 1 f fd ["self", "word"] (spMark CR CS) := by
  refine F.ok sc_mark (fun vs H Q E h => ?_) (fun cdv A outer s H vs Q E hr h => ?_)
  · obtain ⟨z, H0, L, st, T, rfl, _⟩ := h
    rfl
  · obtain ⟨z, H0, L, st, T, rfl, RR0, hne, hz, k⟩ := h
    have nd := sc_mark.nd
    refine ⟨_, pss_cons (ps_set (i := 2) nd rfl (Or.inl rfl) (pe_ix ix_list (pe_fld (pv 0) rfl) (pe_un un_neg pe_int) (fun _ _ => rfl)))
      (pss_cons (ps_if (PW.pt (pw_or (pt_cmpR op_ne (pe_fld (pv 2) rfl) pe_str (nomark _)) (pw_or1 (pt_truth (pe_fld (pv 2) rfl) (by intro _; rfl))))) (pss_one (ps_ret pe_bl)) pss_nil)
      (pss_cons (ps_fld (pv 2) (pv 1) rfl) (pss_one (ps_ret pe_bl)))), ?_⟩
    obtain ⟨dx, hob⟩ := RR0.ob
    have hlt := RR0.wfA _ (last_mem hne)
    obtain ⟨dy, hn⟩ := RR0.nod _ hlt
    refine ⟨_, rfl, L.r, CR, dx, _, _, rfl, hob, R.cl, R.ar, rfl, _, rfl, L.la .r, _, _, _, rfl, rfl, SqL.of (RR0.lst .r trivial), refs_last L hne, ?_⟩
    refine ⟨_, rfl, _, CS, dy, _, _, rfl, hn, S.cl, S.w, rfl, rfl, _, rfl, ?_⟩
    by_cases c1 : (st.node st.last).word = "guard"
    · refine iteF' (by rw [c1]; rfl) ?_
      refine ⟨_, rfl, _, CS, dy, _, _, rfl, hn, S.cl, S.k, rfl, _, tru_str (RR0.szM _ hlt), ?_⟩
      by_cases c2 : (st.node st.last).mark = ""
      · refine iteF' (decide_eq_false fun q => q c2) ?_
        refine ⟨_, rfl, _, rfl, _, CS, dy, _, rfl, hn, S.cl, S.k, (by show 7 < 1000; decide), ?_⟩
        refine k.yes (st' := { st with ns := st.ns.set st.last { st.node st.last with mark := z } }) (by unfold markM; rw [if_neg]; rintro (q | q); exact q c1; exact q c2) rfl ?_
        exact RR0.mark hlt { st.node st.last with mark := z } hz rfl rfl hn
      · refine iteT' (decide_eq_true c2) ?_
        exact k.no (by unfold markM; rw [if_pos (.inr c2)]) RR0
    · refine iteT' (by rw [decide_eq_false fun q => c1 (V.str.inj q)]; rfl) ?_
      exact k.no (by unfold markM; rw [if_pos (.inl c1)]) RR0
/-! ### _end -/
def spEnd (CR CS : Addr) : Sp := fun vs H Q _ => ∃ (H0 : Hp) (L : Lay) (st : RS) (T : Nat), vs = [.ref L.r] ∧ RR CR CS H0 H L st T ∧ T + 1 ≤ 100000 ∧ st.around ≠ [] ∧ Kont CR CS H0 L st (T + 1) (endM st) Q
theorem sc_end : FnScope ["self", "block"] ["self"] (defScope t_Reader_end) := ⟨rfl, rfl, rfl, by decide +kernel, rfl, by decide +kernel, by decide +kernel⟩
theorem ok_end {f : Addr} {fd : FuncData} (F : Fun K "_end" "Reader._end" t_Reader_end f fd) (R : RdC K mg CR) (S : StC K mg CS) : FnOk P w K mg base CX0 1 f fd ["self"] (spEnd CR CS) := by
  refine F.ok sc_end (fun vs H Q E h => ?_) (fun cdv A outer s H vs Q E hr h => ?_)
  · obtain ⟨H0, L, st, T, rfl, _⟩ := h
    rfl
  · obtain ⟨H0, L, st, T, rfl, RR0, hT, hne, k⟩ := h
    have nd := sc_end.nd
    have hu := hu_of hr
    refine ⟨_, pss_cons (ps_set (i := 1) nd rfl (Or.inl rfl) (pe_ix ix_list (pe_fld (pv 0) rfl) (pe_un un_neg pe_int) (fun _ _ => rfl)))
      (pss_cons (ps_if (PW.pt (pw_and (pt_cmpR op_eq (pe_fld (pv 1) rfl) pe_str (nomark _)) (pw_and1 (pt_not (pt_truth (pe_fld (pv 1) rfl) (by intro _; rfl)))))) (pss_one (ps_ret pe_bl)) pss_nil)
      (pss_cons (ps_expr (pe_bm0 PySem.F.plainAttrs_list PySem.F.slot_list_pop PySem.F.type_list_pop mt_pop (pe_fld (pv 0) rfl)))
      (pss_cons (ps_if (pt_cmpR op_eq (pe_fld (pv 1) rfl) pe_str (nomark _)) (pss_one (ps_dput hu (pe_fld (pv 0) rfl) (pe_fld (pv 1) rfl) (pv 1) rfl))
        (pss_one (ps_if (pt_cmpR op_eq (pe_fld (pv 1) rfl) pe_str (nomark _)) (pss_one (ps_dput hu (pe_fld (pv 0) rfl) (pe_fld (pv 1) rfl) (pv 1) rfl)) pss_nil)))
      (pss_one (ps_ret pe_bl))))), ?_⟩
    obtain ⟨dx, hob⟩ := RR0.ob
    have hlt := RR0.wfA _ (last_mem hne)
    obtain ⟨dy, hn⟩ := RR0.nod _ hlt
    refine ⟨_, rfl, L.r, CR, dx, _, _, rfl, hob, R.cl, R.ar, rfl, _, rfl, L.la .r, _, _, _, rfl, rfl, SqL.of (RR0.lst .r trivial), refs_last L hne, ?_⟩
    -- behind the test
    have go : ¬ ((st.node st.last).word = "guard" ∧ (st.node st.last).mark = "") →
        tSeq (tDrop (tBM0 K "list" rPop (tFld K (tVar 0) "around"))) (tSeq (tIfS (tTest (tOp rEq (tFld K (tVar 1) "word") (tC (.str "job")))) (sDPut (tFld K (tVar 0) "jobs") (tFld K (tVar 1) "name") (tVar 1))
          (tIfS (tTest (tOp rEq (tFld K (tVar 1) "word") (tC (.str "walk")))) (sDPut (tFld K (tVar 0) "walks") (tFld K (tVar 1) "name") (tVar 1)) tNext)) (tRet (tC (.bl true)))) { nx := fun x H' => Q V.non H', rt := Q } [some (.ref L.r), some (.ref (L.oa st.last))] H := by
      intro hc
      have eg : atI (refs L st.around) (-1) = some (.ref (L.oa st.last)) := refs_last L hne
      have hx : (refs L st.around)[(refs L st.around).length - 1]? = some (.ref (L.oa st.last)) := by
        unfold refs
        rw [List.length_map, List.getElem?_map, ← List.getLast?_eq_getElem?]
        show _ = some (V.ref (L.oa (st.around.getLastD 0)))
        rw [List.getLastD_eq_getLast?]
        cases e : st.around.getLast? with
        | none => exact absurd (List.getLast?_eq_none_iff.mp e) hne
        | some i => rfl
      refine ⟨_, rfl, L.r, CR, dx, _, _, rfl, hob, R.cl, R.ar, rfl, .inl ⟨rfl, _, SqL.of (RR0.lst .r trivial)⟩, L.la .r, _, _, rfl, rfl, RR0.lst .r trivial, hx, ?_⟩
      have R1 := (RR0.more hT).list .r trivial { st with around := st.around.dropLast } rfl rfl rfl rfl (fun _ _ _ _ => rfl) (fun _ _ => rfl) (fun y _ ne => by cases y <;> first | rfl | exact absurd rfl ne)
        (by have := RR0.szL .r trivial; show (refs L st.around.dropLast).length ≤ _; have h2 : (refs L st.around).length ≤ T := this; unfold refs at h2 ⊢; rw [List.length_map] at h2 ⊢; rw [List.length_dropLast]; omega)
        (fun i hi => RR0.wfA i ((List.dropLast_sublist _).subset hi)) RR0.wfB RR0.wfC
      have ec : cont ({ st with around := st.around.dropLast } : RS) L .r = (refs L st.around).dropLast := by show refs L st.around.dropLast = _; unfold refs; rw [List.map_dropLast]
      rw [ec] at R1
      show Ends.nx _ _ _
      refine cutH (fun σ' H' => σ' = [some (.ref L.r), some (.ref (L.oa st.last))] ∧ RR CR CS H0 H' L { st with around := st.around.dropLast } (T + 1)) ⟨rfl, R1⟩ ?_
      rintro _ H1 ⟨rfl, R1⟩
      refine nx_mk ?_
      obtain ⟨dx1, hob1⟩ := R1.ob
      obtain ⟨dy1, hn1⟩ := R1.nod st.last hlt
      have hn1 : H1 (L.oa st.last) = some (.ins CS dy1 (flds (st.node st.last) (L.la (.b st.last)) (L.la (.c st.last)))) := hn1
      have e0 : endM st = if (st.node st.last).word = "job" then some { st with around := st.around.dropLast, jobs := putN st.jobs (st.node st.last).name st.last } else if (st.node st.last).word = "walk" then some { st with around := st.around.dropLast, walks := putN st.walks (st.node st.last).name st.last } else some { st with around := st.around.dropLast } := by
        unfold endM
        rw [if_neg hc]
      refine ⟨_, rfl, _, CS, dy1, _, _, rfl, hn1, S.cl, S.w, rfl, rfl, _, rfl, ?_⟩
      by_cases c1 : (st.node st.last).word = "job"
      · refine iteT' (decide_eq_true (by rw [c1])) ?_
        refine ⟨_, rfl, _, rfl, L.r, CR, dx1, _, _, rfl, hob1, R.cl, R.j, rfl, _, rfl, _, CS, dy1, _, _, rfl, hn1, S.cl, S.n, rfl, L.jd, _, rfl, DPut.k (k := Sum.inr (st.node st.last).name) R1.jobs (by rw [show (kvsN L ({ st with around := st.around.dropLast } : RS).jobs).length = st.jobs.length from kvs_len]; exact szline RR0.szJ RR0.szT), ?_⟩
        exact k.yes (by rw [e0, if_pos c1]) rfl (R1.putJ (st.node st.last).name hlt (Nat.succ_le_succ RR0.szJ))
      · refine iteF' (decide_eq_false fun q => c1 (V.str.inj q)) ?_
        refine ⟨_, rfl, _, CS, dy1, _, _, rfl, hn1, S.cl, S.w, rfl, rfl, _, rfl, ?_⟩
        by_cases c2 : (st.node st.last).word = "walk"
        · refine iteT' (decide_eq_true (by rw [c2])) ?_
          refine ⟨_, rfl, _, rfl, L.r, CR, dx1, _, _, rfl, hob1, R.cl, R.w, rfl, _, rfl, _, CS, dy1, _, _, rfl, hn1, S.cl, S.n, rfl, L.wd, _, rfl, DPut.k (k := Sum.inr (st.node st.last).name) R1.walks (by rw [show (kvsN L ({ st with around := st.around.dropLast } : RS).walks).length = st.walks.length from kvs_len]; exact szline RR0.szW RR0.szT), ?_⟩
          exact k.yes (by rw [e0, if_neg c1, if_pos c2]) rfl (R1.putW (st.node st.last).name hlt (Nat.succ_le_succ RR0.szW))
        · refine iteF' (decide_eq_false fun q => c2 (V.str.inj q)) ?_
          exact k.yes (by rw [e0, if_neg c1, if_neg c2]) rfl R1
    refine ⟨_, rfl, _, CS, dy, _, _, rfl, hn, S.cl, S.w, rfl, rfl, _, rfl, ?_⟩
    by_cases c1 : (st.node st.last).word = "guard"
    · refine iteT' (decide_eq_true (by rw [c1])) ?_
      refine ⟨_, rfl, _, CS, dy, _, _, rfl, hn, S.cl, S.k, rfl, _, tru_str (RR0.szM _ hlt), ?_⟩
      by_cases c2 : (st.node st.last).mark = ""
      · refine iteT' (by rw [decide_eq_false fun q => q c2]; rfl) ?_
        exact k.no (by unfold endM; rw [if_pos ⟨c1, c2⟩]) (RR0.more hT)
      · refine iteF' (by rw [decide_eq_true c2]; rfl) ?_
        exact go fun q => c2 q.2
    · refine iteF' (decide_eq_false fun q => c1 (V.str.inj q)) (iteF ?_)
      exact go fun q => c1 q.1
end
end Ly
end
section
set_option Elab.async false
set_option linter.all false
set_option maxRecDepth 100000
/-! The Reader's methods, second half. -/
namespace Ly
open PySem PySem.Spec PyProof.Rows L2
section
variable {P : Program} {w : World} {K : PySem.W.Frag} {mg : Str → Option Value} {base : Heap} {CR CS : Addr}
/-! ### _remember -/
def rememberM (st : RS) (nd : Node) : RS := { st with
  gates := if nd.word = "wait" ∨ nd.word = "open" then st.gates ++ [nd.name] else st.gates
  begun := if nd.word = "wait" ∨ nd.word = "open" then st.begun else if nd.word = "begin" then st.begun ++ [nd.name] else st.begun }
def spRemember (CR CS : Addr) : Sp := fun vs H Q _ => ∃ (s dx b c : Addr) (nd : Node) (H0 : Hp) (L : Lay) (st : RS) (T : Nat), vs = [.ref L.r, .ref s] ∧ RR CR CS H0 H L st T ∧ H s = some (.ins CS dx (flds nd b c)) ∧ st.gates.length + 1 ≤ T ∧ st.begun.length + 1 ≤ T ∧
  ∀ H', RR CR CS H0 H' L (rememberM st nd) T → Q .non H'
theorem sc_remember : FnScope ["self", "step"] ["self", "step"] (defScope t_Reader_remember) := ⟨rfl, rfl, rfl, by decide +kernel, rfl, by decide +kernel, by decide +kernel⟩
theorem inV2 (z a b : Str) : inV (.str z) [.str a, .str b] = decide (z = a ∨ z = b) := by
  show (eqV (.str a) (.str z) || (eqV (.str b) (.str z) || false)) = _
  show ((a == z) || ((b == z) || false)) = _
  by_cases h1 : z = a
  · subst h1; simp
  · by_cases h2 : z = b
    · subst h2; simp
    · have e1 : (a == z) = false := beq_eq_false_iff_ne.mpr fun q => h1 q.symm
      have e2 : (b == z) = false := beq_eq_false_iff_ne.mpr fun q => h2 q.symm
      rw [e1, e2, decide_eq_false (by rintro (q | q); exact h1 q; exact h2 q)]
      rfl
theorem ok_remember {f : Addr} {fd : FuncData} (F : Fun K "_remember" "Reader._remember" t_Reader_remember f fd) (R : RdC K mg CR) (S : StC K mg CS) : FnOk P w K mg base CX0 1 f fd ["self", "step"] (spRemember CR CS) := by
  refine F.ok sc_remember (fun vs H Q E h => ?_) (fun cdv A outer s H vs Q E hr h => ?_)
  · obtain ⟨s, dx, b, c, nd, H0, L, st, T, rfl, _⟩ := h
    rfl
  · obtain ⟨s0, dx, b, c, nd, H0, L, st, T, rfl, RR0, hs, hg, hb, k⟩ := h
    refine ⟨_, pss_one (ps_if (pt_cmpR op_in_seq (pe_fld (pv 1) rfl) (pe_tup (pa_cons pe_str (pa_cons pe_str pa_nil))) (by rfl)) (pss_one (ps_expr (pAppend (pe_fld (pv 0) rfl) (pe_fld (pv 1) rfl))))
      (pss_one (ps_if (pt_cmpR op_eq (pe_fld (pv 1) rfl) pe_str (nomark _)) (pss_one (ps_expr (pAppend (pe_fld (pv 0) rfl) (pe_fld (pv 1) rfl)))) pss_nil))), ?_⟩
    refine ⟨_, rfl, s0, CS, dx, _, _, rfl, hs, S.cl, S.w, rfl, by show 2 ≤ sizeLine; decide, fun p hp => ?_⟩
    refine ⟨p, [.str "wait", .str "open"], rfl, .inr (SqT.of upd_same), rfl, rfl, _, rfl, ?_⟩
    rw [show (if false = true then !inV (V.str nd.word) [.str "wait", .str "open"] else inV (V.str nd.word) [.str "wait", .str "open"]) = decide (nd.word = "wait" ∨ nd.word = "open") from inV2 _ _ _]
    have R1 := RR0.same (same_new (o := .tup [.str "wait", .str "open"]) hp)
    have hs1 := same_new (o := .tup [.str "wait", .str "open"]) hp _ _ hs
    obtain ⟨dy, hob⟩ := R1.ob
    by_cases c1 : nd.word = "wait" ∨ nd.word = "open"
    · refine iteT' (decide_eq_true c1) ?_
      refine ⟨_, rfl, L.r, CR, dy, _, _, rfl, hob, R.cl, R.ga, rfl, .inl ⟨rfl, _, SqL.of (R1.lst .g trivial)⟩, _, rfl, s0, CS, dx, _, _, rfl, hs1, S.cl, S.n, rfl, L.la .g, _, _, rfl, rfl, R1.lst .g trivial, szline (R1.szL .g trivial) R1.szT, ?_⟩
      refine k _ ?_
      have R2 := R1.list .g trivial (rememberM st nd) rfl rfl rfl rfl (fun _ _ _ _ => rfl) (fun _ _ => rfl) (fun y _ ne => by
        cases y with
        | u => show ((if _ then _ else _ : List Str).map V.str) = _; rw [if_pos c1]; rfl
        | g => exact absurd rfl ne
        | _ => rfl) (by show ((if _ then _ else _ : List Str).map V.str).length ≤ T; rw [if_pos c1, List.length_map, List.length_append]; exact hg) RR0.wfA RR0.wfB RR0.wfC
      have ec : cont (rememberM st nd) L .g = cont st L .g ++ [V.str nd.name] := by
        show ((if _ then _ else _ : List Str).map V.str) = _
        rw [if_pos c1, List.map_append]
        rfl
      rw [ec] at R2
      exact R2
    · refine iteF' (decide_eq_false c1) ?_
      refine ⟨_, rfl, s0, CS, dx, _, _, rfl, hs1, S.cl, S.w, rfl, rfl, _, rfl, ?_⟩
      by_cases c2 : nd.word = "begin"
      · refine iteT' (decide_eq_true (by rw [c2])) ?_
        refine ⟨_, rfl, L.r, CR, dy, _, _, rfl, hob, R.cl, R.be, rfl, .inl ⟨rfl, _, SqL.of (R1.lst .u trivial)⟩, _, rfl, s0, CS, dx, _, _, rfl, hs1, S.cl, S.n, rfl, L.la .u, _, _, rfl, rfl, R1.lst .u trivial, szline (R1.szL .u trivial) R1.szT, ?_⟩
        refine k _ ?_
        have R2 := R1.list .u trivial (rememberM st nd) rfl rfl rfl rfl (fun _ _ _ _ => rfl) (fun _ _ => rfl) (fun y _ ne => by
          cases y with
          | g => show ((if _ then _ else _ : List Str).map V.str) = _; rw [if_neg c1]; rfl
          | u => exact absurd rfl ne
          | _ => rfl) (by show ((if _ then _ else if _ then _ else _ : List Str).map V.str).length ≤ T; rw [if_neg c1, if_pos c2, List.length_map, List.length_append]; exact hb) RR0.wfA RR0.wfB RR0.wfC
        have ec : cont (rememberM st nd) L .u = cont st L .u ++ [V.str nd.name] := by
          show ((if _ then _ else if _ then _ else _ : List Str).map V.str) = _
          rw [if_neg c1, if_pos c2, List.map_append]
          rfl
        rw [ec] at R2
        exact R2
      · refine iteF' (decide_eq_false fun q => c2 (V.str.inj q)) ?_
        refine k _ ?_
        have e : rememberM st nd = st := by
          unfold rememberM
          rw [if_neg c1, if_neg c1, if_neg c2]
        rw [e]
        exact R1
theorem lc_bools {a D : Addr} {is : List Nat} {L : Lay} {H1 : Hp} {te : TE} {σ : L2.St} {vs : List Nat} {s3 : Nat} (f : Nat → Bool) (hD : H1 D = none) (hq : SqL K H1 a (refs L is)) (small : is.length ≤ 100000)
    (hte : ∀ i ∈ is, ∀ H2, Same H1 H2 → ∀ Qv : VK, Qv (.bl (f i)) H2 → te ((wipe σ vs).set s3 (some (.ref (L.oa i)))) H2 Qv) (hw : ∀ v, wipe ((wipe σ vs).set s3 (some v)) vs = wipe σ vs) {Qd : Hp → Prop} (hd : ∀ H2, Same H1 H2 → H2 D = some (.lst (is.map fun i => V.bl (f i))) → Qd H2) :
    ∃ W : Nat → Nat → Hp → Prop, (∃ m, W 0 m (upd H1 D (.lst []))) ∧ ∀ i m H, W i m H →
      ((Itl K a).stop i H ∧ Qd H) ∨ ((Itl K a).go i H ∧ ∃ Nx : Hp → Prop, (∀ H', Nx H' → ∃ m', m' < m ∧ W (i + 1) m' H') ∧ ∀ x H', (Itl K a).yld i H x H' → gName s3 x (wipe σ vs) H' fun σ2 H2 => wipe σ2 vs = wipe σ vs ∧ tYes σ2 H2 fun b H3 =>
        if b = true then te σ2 H3 fun y H4 => ∃ acc, H4 D = some (.lst acc) ∧ acc.length < sizeLine ∧ Nx (upd H4 D (.lst (acc ++ [y]))) else Nx H3) := by
  refine lc_it (walk_list (xs := refs L is)) (fun i H' => Same H1 H' ∧ H' D = some (.lst ((is.take i).map fun i => V.bl (f i)))) ⟨same_new hD, upd_same⟩ (fun i H' _ h => h.1.seq hq) ?_ ?_
  · rintro j x H2 H2' hj ⟨s2, hDD⟩ ⟨rfl, hx⟩
    obtain ⟨i, hi, rfl⟩ : ∃ i, is[j]? = some i ∧ V.ref (L.oa i) = x := by
      have hx : (is.map fun i => V.ref (L.oa i))[j]? = some x := hx
      rw [List.getElem?_map] at hx
      cases e : is[j]? with
      | none => rw [e] at hx; cases hx
      | some i => rw [e] at hx; exact ⟨i, rfl, Option.some.inj hx⟩
    refine ⟨hw _, tYes_of ?_⟩
    refine iteT ?_
    refine hte i (List.mem_of_getElem? hi) _ s2 _ ?_
    refine ⟨_, hDD, ?_, fun b o e => ?_, ?_⟩
    · rw [List.length_map, List.length_take]
      exact Nat.lt_of_le_of_lt (Nat.min_le_right _ _) (szline small (Nat.le_refl _))
    · rw [upd_ne fun z => by rw [z, hD] at e; cases e]
      exact s2 b o e
    · rw [upd_same, List.take_succ, hi, List.map_append]
      rfl
  · rintro H2 ⟨s2, hDD⟩
    refine hd H2 s2 ?_
    rw [hDD, List.take_of_length_le (by unfold refs; rw [List.length_map]; exact Nat.le_refl _)]
/-! ### _may_stand -/
def spMayStand (CR CS : Addr) : Sp := fun vs H Q _ => ∃ (s dx b c : Addr) (nd : Node) (H0 : Hp) (L : Lay) (st : RS) (T : Nat), vs = [.ref L.r, .ref s] ∧ RR CR CS H0 H L st T ∧ H s = some (.ins CS dx (flds nd b c)) ∧ st.around ≠ [] ∧ ∀ H', Same H H' → Q (.bl (mayStandM st nd)) H'
theorem sc_may : FnScope ["self", "step", "sort", "block"] ["self", "step"] (defScope t_Reader_may_stand) := ⟨rfl, rfl, rfl, by decide +kernel, rfl, by decide +kernel, by decide +kernel⟩
theorem any_bools (is : List Nat) (f : Nat → Bool) : ((is.map f).any id) = is.any f := by rw [List.any_map]; rfl
theorem ok_may {f fk : Addr} {fd fdk : FuncData} (F : Fun K "_may_stand" "Reader._may_stand" t_Reader_may_stand f fd) (B : Bt mg) (R : RdC K mg CR) (S : StC K mg CS) (GK : FnOk P w K mg base CX0 1 fk fdk ["block", "walk"] (spKeeps CS)) (AK : At K mg "_keeps" fk fdk ["block", "walk"]) (kk : PySem.W.keepIn K (.ref fk) = true) :
    FnOk P w K mg base CX0 2 f fd ["self", "step"] (spMayStand CR CS) := by
  refine F.ok sc_may (fun vs H Q E h => ?_) (fun cdv A outer s H vs Q E hr h => ?_)
  · obtain ⟨s, dx, b, c, nd, H0, L, st, T, rfl, _⟩ := h
    rfl
  · obtain ⟨s0, dx, b, c, nd, H0, L, st, T, rfl, RR0, hs, hne, k⟩ := h
    have nod := sc_may.nd
    have hu := hu_of hr
    refine ⟨_, pss_cons (ps_set (i := 2) nod rfl (Or.inl rfl) (pe_fld (pe_ix ix_list (pe_fld (pv 0) rfl) pe_int (fun _ _ => rfl)) rfl))
      (pss_cons (ps_if (pt_cmpR op_eq (pe_fld (pv 1) rfl) pe_str (nomark _)) (pss_one (ps_ret (pe_and (pe_cmpR op_eq (pv 2) pe_str (nomark _)) (pe_one (pe_not (pe_callB (cr_any rfl) (by rfl) B.any PyProof.Rows.boot_any (pa_cons
        (pe_lc (own := [("block", 3)]) (g := gName 3) (tt := tYes) (te := tOp rEq (tFld K (tVar 3) "mark") (tC (.str "late"))) (by rfl) nod (pi_list (pe_fld (pv 0) rfl)) (blkOk_by (own := [("block", 3)]) (N := ["self", "step", "sort", "block"]) (sc := defScope t_Reader_may_stand) (by decide +kernel)) (fun _ _ _ _ _ => pg_name (i := 3) nod rfl (Or.inl rfl)) (fun _ _ _ _ _ => pts_nil)
          (fun _ _ _ _ _ => by exact pe_cmpR op_eq (pe_fld (pv 3) rfl) pe_str (nomark _))) pa_nil))))))) pss_nil)
      (pss_cons (ps_if (pt_cmpR op_ne (pe_fld (pv 1) rfl) pe_str (nomark _)) (pss_one (ps_ret pe_bl)) pss_nil)
      (pss_cons (ps_if (pt_cmp (pc_dnotin hu (pe_fld (pv 1) rfl) (pe_fld (pv 0) rfl))) (pss_one (ps_ret pe_bl)) pss_nil)
      (pss_cons (ps_if (pt_cmpR op_ne (pe_fld (pv 1) rfl) pe_str (nomark _)) (pss_one (ps_ret pe_bl)) pss_nil)
      (pss_one (ps_ret (pe_and (pe_cmpR op_eq (pv 2) pe_str (nomark _)) (pe_one (pe_not (pe_callB (cr_any rfl) (by rfl) B.any PyProof.Rows.boot_any (pa_cons
        (pe_lc (own := [("block", 3)]) (g := gName 3) (tt := tYes) (te := tCall (spKeeps CS) [] E0 (tCons (tVar 3) (tCons (tFld K (tVar 1) "name") tNil))) (by rfl) nod (pi_list (pe_fld (pv 0) rfl)) (blkOk_by (own := [("block", 3)]) (N := ["self", "step", "sort", "block"]) (sc := defScope t_Reader_may_stand) (by decide +kernel)) (fun _ _ _ _ _ => pg_name (i := 3) nod rfl (Or.inl rfl)) (fun _ _ _ _ _ => pts_nil)
          (fun _ _ _ _ _ => by exact pe_call GK hr rfl AK.g kk AK.b .nil pass0 (pa_cons (pv 3) (pa_cons (pe_fld (pv 1) rfl) pa_nil)))) pa_nil))))))))))), ?_⟩
    obtain ⟨dy, hob⟩ := RR0.ob
    have hlt := RR0.wfA _ (head_mem hne)
    obtain ⟨dz, hn⟩ := RR0.nod _ hlt
    refine ⟨_, rfl, L.r, CR, dy, _, _, rfl, hob, R.cl, R.ar, rfl, L.la .r, _, _, _, rfl, rfl, SqL.of (RR0.lst .r trivial), refs_head L hne, _, CS, dz, _, _, rfl, hn, S.cl, S.w, rfl, ?_⟩
    refine nx_mk ?_
    have dm : ∀ b, b = mayStandM st nd → ∀ H', Same H H' → Q (.bl b) H' := fun b e H' q => by rw [e]; exact k H' q
    have sm : st.around.length ≤ 100000 := by
      have h1 := RR0.szL .r trivial
      have h2 : (refs L st.around).length ≤ T := h1
      unfold refs at h2
      rw [List.length_map] at h2
      exact Nat.le_trans h2 RR0.szT
    have eS : ∀ {H2 : Hp}, Same H H2 → ∀ i ∈ st.around, ∃ dx, H2 (L.oa i) = some (.ins CS dx (flds (st.node i) (L.la (.b i)) (L.la (.c i)))) := fun q i hi => let ⟨dx, e⟩ := RR0.nod i (RR0.wfA i hi); ⟨dx, q _ _ e⟩
    refine ⟨_, rfl, s0, CS, dx, _, _, rfl, hs, S.cl, S.w, rfl, rfl, _, rfl, ?_⟩
    by_cases c1 : nd.word = "give"
    · refine iteT' (decide_eq_true (by rw [c1])) ?_
      refine ⟨_, rfl, rfl, _, rfl, ?_⟩
      have em : mayStandM st nd = (decide ((st.node (st.around.headD 0)).word = "walk") && !(st.around.any fun i => decide ((st.node i).mark = "late"))) := by unfold mayStandM; rw [if_pos c1]
      by_cases c2 : (st.node (st.around.headD 0)).word = "walk"
      · refine iteT' (decide_eq_true (by rw [c2])) ?_
        refine ⟨_, rfl, L.r, CR, dy, _, _, rfl, hob, R.cl, R.ar, rfl, L.la .r, rfl, ⟨_, SqL.of (RR0.lst .r trivial)⟩, fun D hD => lc_bools (fun i => decide ((st.node i).mark = "late")) hD (SqL.of (RR0.lst .r trivial)) sm (fun i hi H2 q Qv hv => ?_) (fun v => rfl) (fun H2 q hDD => ?_)⟩
        · obtain ⟨dv, hv2⟩ := eS q i hi
          refine ⟨_, rfl, _, CS, dv, _, _, rfl, hv2, S.cl, S.k, rfl, rfl, ?_⟩
          have : decide (V.str (st.node i).mark = V.str "late") = decide ((st.node i).mark = "late") := decide_eq_decide.mpr ⟨V.str.inj, fun q => by rw [q]⟩
          rw [this]
          exact hv
        · refine ⟨D, st.around.map fun i => decide ((st.node i).mark = "late"), rfl, SqL.of (by rw [hDD, List.map_map]; rfl), _, rfl, ?_⟩
          refine dm _ ?_ H2 q
          rw [em, decide_eq_true c2, any_bools]
          rfl
      · refine iteF' (decide_eq_false fun q => c2 (V.str.inj q)) ?_
        exact dm _ (by rw [em, decide_eq_false c2]; rfl) H (Same.refl H)
    · refine iteF' (decide_eq_false fun q => c1 (V.str.inj q)) ?_
      refine ⟨_, rfl, s0, CS, dx, _, _, rfl, hs, S.cl, S.w, rfl, rfl, _, rfl, ?_⟩
      by_cases c2 : nd.word = "each"
      · refine iteF' (by rw [c2]; rfl) ?_
        refine ⟨_, rfl, s0, CS, dx, _, _, rfl, hs, S.cl, S.n, rfl, _, rfl, L.r, CR, dy, _, _, rfl, hob, R.cl, R.w, rfl, L.wd, _, rfl, dget_str RR0.walks _, _, rfl, ?_⟩
        rw [kvs_has]
        cases c3 : hasN st.walks nd.name with
        | false =>
          refine iteT ?_
          exact dm _ (by unfold mayStandM; rw [if_neg c1, if_neg (fun q => q c2), if_pos c3]) H (Same.refl H)
        | true =>
          refine iteF ?_
          refine ⟨_, rfl, s0, CS, dx, _, _, rfl, hs, S.cl, S.h, rfl, rfl, _, rfl, ?_⟩
          by_cases c4 : nd.how = "kept"
          · refine iteF' (by rw [c4]; rfl) ?_
            refine ⟨_, rfl, rfl, _, rfl, ?_⟩
            have em : mayStandM st nd = (decide ((st.node (st.around.headD 0)).word = "job") && !(st.around.any fun i => keepsM (st.node i) nd.name)) := by
              unfold mayStandM
              rw [if_neg c1, if_neg (fun q => q c2), if_neg (by rw [c3]; intro z; cases z), if_neg (fun q => q c4)]
            by_cases c5 : (st.node (st.around.headD 0)).word = "job"
            · refine iteT' (decide_eq_true (by rw [c5])) ?_
              refine ⟨_, rfl, L.r, CR, dy, _, _, rfl, hob, R.cl, R.ar, rfl, L.la .r, rfl, ⟨_, SqL.of (RR0.lst .r trivial)⟩, fun D hD => lc_bools (fun i => keepsM (st.node i) nd.name) hD (SqL.of (RR0.lst .r trivial)) sm (fun i hi H2 q Qv hv => ?_) (fun v => rfl) (fun H2 q hDD => ?_)⟩
              · obtain ⟨dv, hv2⟩ := eS q i hi
                exact ⟨_, rfl, _, rfl, s0, CS, dx, _, _, rfl, q _ _ hs, S.cl, S.n, rfl, _, dv, _, _, st.node i, nd.name, rfl, hv2, hv⟩
              · refine ⟨D, st.around.map fun i => keepsM (st.node i) nd.name, rfl, SqL.of (by rw [hDD, List.map_map]; rfl), _, rfl, ?_⟩
                refine dm _ ?_ H2 q
                rw [em, decide_eq_true c5, any_bools]
                rfl
            · refine iteF' (decide_eq_false fun q => c5 (V.str.inj q)) ?_
              exact dm _ (by rw [em, decide_eq_false c5]; rfl) H (Same.refl H)
          · refine iteT' (by rw [decide_eq_false fun q => c4 (V.str.inj q)]; rfl) ?_
            exact dm _ (by unfold mayStandM; rw [if_neg c1, if_neg (fun q => q c2), if_neg (by rw [c3]; intro z; cases z), if_pos c4]) H (Same.refl H)
      · refine iteT' (by rw [decide_eq_false fun q => c2 (V.str.inj q)]; rfl) ?_
        exact dm _ (by unfold mayStandM; rw [if_neg c1, if_pos c2]) H (Same.refl H)
/-! ### _add -/
def blkM (st : RS) : Node := if (st.node st.last).mark ≠ "" then { st.node st.last with behind := (st.node st.last).behind ++ [st.ns.length] } else { st.node st.last with body := (st.node st.last).body ++ [st.ns.length] }
def putM (st : RS) (nd : Node) : RS := { st with ns := st.ns.set st.last (blkM st) ++ [nd] }
theorem addM_eq (st : RS) (nd : Node) (h : mayStandM st nd = true) : addM st nd = some (if (blocksL.any (· == nd.word)) = true then { rememberM (putM st nd) nd with deepest := max st.deepest st.around.length, around := st.around ++ [st.ns.length] } else rememberM (putM st nd) nd) := by
  unfold addM
  rw [if_neg (by rw [h]; intro z; cases z)]
  unfold rememberM putM blkM
  cases (blocksL.any (· == nd.word)) <;> rfl
theorem node_put {st : RS} {nd : Node} (hl : st.last < st.ns.length) {i : Nat} : (putM st nd).node i = if i = st.ns.length then nd else if i = st.last then blkM st else st.node i := by
  have e : (putM st nd).node i = ({ ({ st with ns := st.ns.set st.last (blkM st) } : RS) with ns := ({ st with ns := st.ns.set st.last (blkM st) } : RS).ns ++ [nd] } : RS).node i := rfl
  rw [e, node_app, node_set hl]
  show (if i = (st.ns.set st.last (blkM st)).length then _ else _) = _
  rw [List.length_set]
theorem put_len' {st : RS} {nd : Node} : (putM st nd).ns.length = st.ns.length + 1 := by show (st.ns.set st.last (blkM st) ++ [nd]).length = _; rw [List.length_append, List.length_set]; rfl
/-- the row's block has got it -/
theorem RR.put {H0 H : Hp} {L : Lay} {st : RS} {T : Nat} {nd : Node} {a b c : Addr} (R0 : ∀ x, x.ok st.ns.length → (cont st L x).length + 1 ≤ T) (wA : ∀ i ∈ st.around, i < st.ns.length) (wB : ∀ k, k < st.ns.length → ∀ i ∈ (st.node k).body, i < st.ns.length) (wC : ∀ k, k < st.ns.length → ∀ i ∈ (st.node k).behind, i < st.ns.length)
    (R : RR CR CS H0 H (L.more st.ns.length a b c) { st with ns := st.ns ++ [nd] } T) (hl : st.last < st.ns.length) (x : LL) (hx : x = if (st.node st.last).mark ≠ "" then LL.c st.last else LL.b st.last) :
    RR CR CS H0 (upd H (L.la x) (.lst (cont st L x ++ [V.ref a]))) (L.more st.ns.length a b c) (putM st nd) T := by
  have xo : x.ok st.ns.length := by subst hx; split <;> exact hl
  have xo' : x.ok ({ st with ns := st.ns ++ [nd] } : RS).ns.length := by
    show x.ok (st.ns ++ [nd]).length
    rw [List.length_append]
    exact (ok_up xo).1
  have blk : ∀ b c, flds (blkM st) b c = flds (st.node st.last) b c := fun b c => by unfold blkM; split <;> rfl
  have ec : cont (putM st nd) (L.more st.ns.length a b c) x = cont st L x ++ [V.ref a] := by
    subst hx
    by_cases m : (st.node st.last).mark ≠ ""
    · rw [if_pos m]
      show refs _ ((putM st nd).node st.last).behind = refs L (st.node st.last).behind ++ _
      rw [node_put hl, if_neg (Nat.ne_of_lt hl), if_pos rfl, show (blkM st).behind = (st.node st.last).behind ++ [st.ns.length] by unfold blkM; rw [if_pos m]]
      unfold refs
      rw [List.map_append]
      have q := refs_more (L := L) (a := a) (b := b) (c := c) (wC _ hl)
      unfold refs at q
      rw [q]
      show _ ++ [V.ref ((L.more st.ns.length a b c).oa st.ns.length)] = _
      rw [more_on]
    · rw [if_neg m]
      show refs _ ((putM st nd).node st.last).body = refs L (st.node st.last).body ++ _
      rw [node_put hl, if_neg (Nat.ne_of_lt hl), if_pos rfl, show (blkM st).body = (st.node st.last).body ++ [st.ns.length] by unfold blkM; rw [if_neg m]]
      unfold refs
      rw [List.map_append]
      have q := refs_more (L := L) (a := a) (b := b) (c := c) (wB _ hl)
      unfold refs at q
      rw [q]
      show _ ++ [V.ref ((L.more st.ns.length a b c).oa st.ns.length)] = _
      rw [more_on]
  have hb1 : ∀ k, k < st.ns.length + 1 → ∀ i ∈ ((putM st nd).node k).body, i < st.ns.length + 1 := fun k hk i hi => by
    have r := R.wfB k (by show k < (st.ns ++ [nd]).length; rw [List.length_append]; exact hk)
    rw [node_put hl] at hi
    by_cases e : k = st.ns.length
    · rw [if_pos e] at hi
      have := r i (by rw [node_app, if_pos e]; exact hi)
      rw [show ({ st with ns := st.ns ++ [nd] } : RS).ns.length = st.ns.length + 1 by show (st.ns ++ [nd]).length = _; rw [List.length_append]; rfl] at this
      exact this
    · rw [if_neg e] at hi
      by_cases e2 : k = st.last
      · rw [if_pos e2] at hi
        unfold blkM at hi
        split at hi
        · exact Nat.lt_succ_of_lt (wB _ hl i hi)
        · rcases List.mem_append.mp hi with hi | hi
          · exact Nat.lt_succ_of_lt (wB _ hl i hi)
          · rw [List.mem_singleton.mp hi]; exact Nat.lt_succ_self _
      · rw [if_neg e2] at hi
        exact Nat.lt_succ_of_lt (wB k (by omega) i hi)
  have hc1 : ∀ k, k < st.ns.length + 1 → ∀ i ∈ ((putM st nd).node k).behind, i < st.ns.length + 1 := fun k hk i hi => by
    have r := R.wfC k (by show k < (st.ns ++ [nd]).length; rw [List.length_append]; exact hk)
    rw [node_put hl] at hi
    by_cases e : k = st.ns.length
    · rw [if_pos e] at hi
      have := r i (by rw [node_app, if_pos e]; exact hi)
      rw [show ({ st with ns := st.ns ++ [nd] } : RS).ns.length = st.ns.length + 1 by show (st.ns ++ [nd]).length = _; rw [List.length_append]; rfl] at this
      exact this
    · rw [if_neg e] at hi
      by_cases e2 : k = st.last
      · rw [if_pos e2] at hi
        unfold blkM at hi
        split at hi
        · rcases List.mem_append.mp hi with hi | hi
          · exact Nat.lt_succ_of_lt (wC _ hl i hi)
          · rw [List.mem_singleton.mp hi]; exact Nat.lt_succ_self _
        · exact Nat.lt_succ_of_lt (wC _ hl i hi)
      · rw [if_neg e2] at hi
        exact Nat.lt_succ_of_lt (wC k (by omega) i hi)
  have n1 : ({ st with ns := st.ns ++ [nd] } : RS).ns.length = st.ns.length + 1 := by show (st.ns ++ [nd]).length = _; rw [List.length_append]; rfl
  have z := R.list x xo' (putM st nd) (by rw [put_len', n1]) rfl rfl rfl (fun i hi b c => ?_) (fun i hi => ?_) (fun y hy ne => ?_) ?_ (by rw [n1]; exact fun i h => Nat.lt_succ_of_lt (wA i h)) (by rw [n1]; exact hb1) (by rw [n1]; exact hc1)
  · rw [ec, more_la xo] at z
    exact z
  · rw [node_put hl, node_app]
    by_cases e : i = st.ns.length
    · rw [if_pos e, if_pos e]
    · rw [if_neg e, if_neg e]
      by_cases e2 : i = st.last
      · rw [if_pos e2, e2]; exact blk b c
      · rw [if_neg e2]
  · rw [node_put hl, node_app]
    by_cases e : i = st.ns.length
    · rw [if_pos e, if_pos e]
    · rw [if_neg e, if_neg e]
      by_cases e2 : i = st.last
      · rw [if_pos e2, e2]; unfold blkM; split <;> rfl
      · rw [if_neg e2]
  · cases y with
    | b i =>
      show refs _ ((putM st nd).node i).body = refs _ (RS.node _ i).body
      rw [node_put hl, node_app]
      by_cases e : i = st.ns.length
      · rw [if_pos e, if_pos e]
      · rw [if_neg e, if_neg e]
        by_cases e2 : i = st.last
        · rw [if_pos e2, e2]
          unfold blkM
          by_cases m : (st.node st.last).mark ≠ ""
          · rw [if_pos m]
          · exact absurd (by rw [hx, if_neg m, e2]) ne
        · rw [if_neg e2]
    | c i =>
      show refs _ ((putM st nd).node i).behind = refs _ (RS.node _ i).behind
      rw [node_put hl, node_app]
      by_cases e : i = st.ns.length
      · rw [if_pos e, if_pos e]
      · rw [if_neg e, if_neg e]
        by_cases e2 : i = st.last
        · rw [if_pos e2, e2]
          unfold blkM
          by_cases m : (st.node st.last).mark ≠ ""
          · exact absurd (by rw [hx, if_pos m, e2]) ne
          · rw [if_neg m]
        · rw [if_neg e2]
    | _ => rfl
  · rw [ec, List.length_append]
    exact R0 x xo
def spAdd (CR CS : Addr) : Sp := fun vs H Q _ => ∃ (s dx b c : Addr) (nd : Node) (H0 Hb : Hp) (L : Lay) (st : RS) (T : Nat), vs = [.ref L.r, .ref s] ∧ RR CR CS H0 Hb L st T ∧ Same Hb H ∧ Hb s = none ∧ Hb b = none ∧ Hb c = none ∧ b ≠ c ∧ H s = some (.ins CS dx (flds nd b c)) ∧ H b = some (.lst []) ∧ H c = some (.lst []) ∧
  nd.body = [] ∧ nd.behind = [] ∧ nd.mark.length ≤ 100 ∧ st.around ≠ [] ∧ T + 1 ≤ 100000 ∧ Kont CR CS H0 L st (T + 1) (addM st nd) Q
theorem sc_add : FnScope ["self", "step", "block"] ["self", "step"] (defScope t_Reader_add) := ⟨rfl, rfl, rfl, by decide +kernel, rfl, by decide +kernel, by decide +kernel⟩
theorem ok_add {f fm fr : Addr} {fd fdm fdr : FuncData} (F : Fun K "_add" "Reader._add" t_Reader_add f fd) (B : Bt mg) (R : RdC K mg CR) (S : StC K mg CS) (GM : FnOk P w K mg base CX0 2 fm fdm ["self", "step"] (spMayStand CR CS)) (mM : Meth K CR "_may_stand" fm) (bM : Binds K fdm ["self", "step"] [])
    (GR : FnOk P w K mg base CX0 1 fr fdr ["self", "step"] (spRemember CR CS)) (mR : Meth K CR "_remember" fr) (bR : Binds K fdr ["self", "step"] []) (hB : ∃ a, mg "_BLOCKS" = some (.ref a) ∧ ∀ H, SqT K H a (blocksL.map V.str)) : FnOk P w K mg base CX0 3 f fd ["self", "step"] (spAdd CR CS) := by
  refine F.ok sc_add (fun vs H Q E h => ?_) (fun cdv A outer s H vs Q E hr h => ?_)
  · obtain ⟨s, dx, b, c, nd, H0, Hb, L, st, T, rfl, _⟩ := h
    rfl
  · obtain ⟨s0, dx, b, c, nd, H0, Hb, L, st, T, rfl, RR0, sb, ns0, nb, nc, bc, hs, hb, hc, eb, ee, em, hne, hT, k⟩ := h
    have nod := sc_add.nd
    have hr1 : Room 1 _ := hr.mono (by decide)
    obtain ⟨aB, gB, qB⟩ := hB
    refine ⟨_, pss_cons (ps_if (pt_not (pt_val (pe_meth (pv 0) R.cl mM GM hr bM .nil pass0 (pa_cons (pv 1) pa_nil)))) (pss_one (ps_ret pe_bl)) pss_nil)
      (pss_cons (ps_set (i := 2) nod rfl (Or.inl rfl) (pe_ix ix_list (pe_fld (pv 0) rfl) (pe_un un_neg pe_int) (fun _ _ => rfl)))
      (pss_cons (ps_if (pt_truth (pe_fld (pv 2) rfl) (by intro _; rfl)) (pss_one (ps_expr (pAppend (pe_fld (pv 2) rfl) (pv 1)))) (pss_one (ps_expr (pAppend (pe_fld (pv 2) rfl) (pv 1)))))
      (pss_cons (ps_expr (pe_meth (pv 0) R.cl mR GR hr1 bR .nil pass0 (pa_cons (pv 1) pa_nil)))
      (pss_cons (ps_if (pt_cmpR op_in_seq (pe_fld (pv 1) rfl) (pgR gB) (by rfl))
        (pss_cons (ps_fld (pv 0) (pe_callB (call_max2 rfl) (by rfl) B.max (by decide +kernel) (pa_cons (pe_fld (pv 0) rfl) (pa_cons (pLenQ B.len (pe_fld (pv 0) rfl)) pa_nil))) rfl) (pss_one (ps_expr (pAppend (pe_fld (pv 0) rfl) (pv 1))))) pss_nil)
      (pss_one (ps_ret pe_bl)))))), ?_⟩
    obtain ⟨dy, hob⟩ := RR0.ob
    have hlt := RR0.wfA _ (last_mem hne)
    refine ⟨_, rfl, L.r, dy, _, rfl, sb _ _ hob, rfl, _, rfl, s0, dx, b, c, nd, H0, L, st, T, rfl, RR0.same sb, hs, hne, fun H1 q1 => ⟨_, rfl, ?_⟩⟩
    cases hm : mayStandM st nd with
    | false =>
      refine iteT ?_
      exact k.no (by unfold addM; rw [if_pos hm]) ((RR0.more hT).same (sb.trans q1))
    | true =>
      refine iteF ?_
      have R1 := (RR0.more hT).node (sb.trans q1) ns0 nb nc bc (q1 _ _ hs) (q1 _ _ hb) (q1 _ _ hc) (by have := RR0.szN; omega) eb ee em
      obtain ⟨dy1, hob1⟩ := R1.ob
      have er : (L.more st.ns.length s0 b c).la .r = L.la .r := more_la (L := L) (x := .r) trivial
      have hr2 := R1.lst .r trivial
      rw [er] at hr2
      have ear : cont ({ st with ns := st.ns ++ [nd] } : RS) (L.more st.ns.length s0 b c) .r = refs L st.around := refs_more RR0.wfA
      rw [ear] at hr2
      have hob1 : H1 L.r = some (.ins CR dy1 (rflds (L.more st.ns.length s0 b c) st.deepest)) := hob1
      have ela : List.lookup ("around" : Str) (rflds (L.more st.ns.length s0 b c) st.deepest) = some (.ref (L.la .r)) := by rw [← er]; rfl
      refine ⟨_, rfl, L.r, CR, dy1, _, _, rfl, hob1, R.cl, R.ar, ela, _, rfl, L.la .r, _, _, _, rfl, rfl, SqL.of hr2, refs_last L hne, ?_⟩
      obtain ⟨dn, hn⟩ := RR0.nod _ hlt
      have hn1 := q1 _ _ (sb _ _ hn)
      refine nx_mk ?_
      -- the row is put into its block
      refine seq_cut (t := tIfS _ _ _) (fun σ' H' => σ' = [some (.ref L.r), some (.ref s0), some (.ref (L.oa st.last))] ∧ RR CR CS H0 H' (L.more st.ns.length s0 b c) (putM st nd) (T + 1) ∧ ∃ dx, H' s0 = some (.ins CS dx (flds nd b c))) (fun N hN => ?_) ?_
      · have bound : ∀ x, x.ok st.ns.length → (cont st L x).length + 1 ≤ T + 1 := fun x h => Nat.succ_le_succ (RR0.szL x h)
        refine ⟨_, rfl, _, CS, dn, _, _, rfl, hn1, S.cl, S.k, rfl, _, tru_str (RR0.szM _ hlt), ?_⟩
        by_cases m : (st.node st.last).mark ≠ ""
        · refine iteT' (decide_eq_true m) ?_
          have hl := q1 _ _ (sb _ _ (RR0.lst (.c st.last) hlt))
          refine ⟨_, rfl, _, CS, dn, _, _, rfl, hn1, S.cl, S.e, rfl, .inl ⟨rfl, _, SqL.of hl⟩, _, rfl, _, _, _, rfl, rfl, hl, szline (RR0.szL (.c st.last) hlt) RR0.szT, ?_⟩
          exact hN _ _ ⟨rfl, RR.put bound RR0.wfA RR0.wfB RR0.wfC R1 hlt (.c st.last) (by rw [if_pos m]), dx, upd_at (q1 _ _ hs) hl (by intro z; cases z)⟩
        · refine iteF' (decide_eq_false m) ?_
          have hl := q1 _ _ (sb _ _ (RR0.lst (.b st.last) hlt))
          refine ⟨_, rfl, _, CS, dn, _, _, rfl, hn1, S.cl, S.b, rfl, .inl ⟨rfl, _, SqL.of hl⟩, _, rfl, _, _, _, rfl, rfl, hl, szline (RR0.szL (.b st.last) hlt) RR0.szT, ?_⟩
          exact hN _ _ ⟨rfl, RR.put bound RR0.wfA RR0.wfB RR0.wfC R1 hlt (.b st.last) (by rw [if_neg m]), dx, upd_at (q1 _ _ hs) hl (by intro z; cases z)⟩
      · rintro _ H2 ⟨rfl, R2, dx2, hs2⟩
        obtain ⟨dy2, hob2⟩ := R2.ob
        have hg : st.gates.length + 1 ≤ T + 1 := by have h1 := RR0.szL .g trivial; have h2 : (st.gates.map V.str).length ≤ T := h1; rw [List.length_map] at h2; omega
        have hbg : st.begun.length + 1 ≤ T + 1 := by have h1 := RR0.szL .u trivial; have h2 : (st.begun.map V.str).length ≤ T := h1; rw [List.length_map] at h2; omega
        refine ⟨_, rfl, L.r, dy2, _, rfl, hob2, rfl, _, rfl, s0, dx2, b, c, nd, H0, L.more st.ns.length s0 b c, putM st nd, T + 1, rfl, R2, hs2, hg, hbg, fun H3 R3 => ?_⟩
        have n3 : (rememberM (putM st nd) nd).ns.length = st.ns.length + 1 := put_len'
        obtain ⟨dx3, hs3⟩ := R3.nod st.ns.length (by rw [n3]; exact Nat.lt_succ_self _)
        have en3 : (rememberM (putM st nd) nd).node st.ns.length = nd := by show (putM st nd).node _ = _; rw [node_put hlt, if_pos rfl]
        rw [en3, more_on] at hs3
        obtain ⟨dy3, hob3⟩ := R3.ob
        have hob3 : H3 L.r = some (.ins CR dy3 (rflds (L.more st.ns.length s0 b c) st.deepest)) := hob3
        have hr3 := R3.lst .r trivial
        rw [er] at hr3
        have ear3 : cont (rememberM (putM st nd) nd) (L.more st.ns.length s0 b c) .r = refs L st.around := refs_more RR0.wfA
        rw [ear3] at hr3
        have eA := addM_eq st nd hm
        refine ⟨_, rfl, s0, CS, dx3, _, _, rfl, hs3, S.cl, S.w, rfl, aB, _, rfl, .inr (qB H3), rfl, flat_str _, _, rfl, ?_⟩
        rw [show (if false = true then !inV (V.str nd.word) (blocksL.map V.str) else inV (V.str nd.word) (blocksL.map V.str)) = blocksL.any (· == nd.word) from inV_strs _ _]
        cases hbk : blocksL.any (· == nd.word) with
        | false =>
          refine iteF ?_
          rw [hbk, if_neg (by intro z; cases z)] at eA
          exact k.yes eA (L' := L.more st.ns.length s0 b c) rfl R3
        | true =>
          refine iteT ?_
          rw [hbk, if_pos rfl] at eA
          refine ⟨_, rfl, L.r, CR, dy3, _, _, rfl, hob3, R.cl, R.de, rfl, _, rfl, L.r, CR, dy3, _, _, rfl, hob3, R.cl, R.ar, ela, _, _, rfl, .inl (SqL.of hr3), _, _, rfl, _, rfl, L.r, CR, dy3, _, rfl, hob3, R.cl, R.de, (by show 6 < 1000; decide), ?_⟩
          have em2 : (V.int (if ((refs L st.around).length : Int) > (st.deepest : Int) then ((refs L st.around).length : Int) else (st.deepest : Int))) = V.int ((max st.deepest st.around.length : Nat) : Int) := by
            unfold refs
            rw [List.length_map]
            congr 1
            by_cases q : st.around.length > st.deepest
            · rw [if_pos (by omega), Nat.max_eq_right (by omega)]
            · rw [if_neg (by omega), Nat.max_eq_left (by omega)]
          have ep : putF "deepest" (V.int (if ((refs L st.around).length : Int) > (st.deepest : Int) then ((refs L st.around).length : Int) else (st.deepest : Int))) (rflds (L.more st.ns.length s0 b c) st.deepest) = rflds (L.more st.ns.length s0 b c) (max st.deepest st.around.length) := by
            rw [em2]
            kernel_rfl
          have R4 := R3.deep (dx := dy3) hob3 (max st.deepest st.around.length)
          refine cutH (fun σ' H' => σ' = [some (.ref L.r), some (.ref s0), some (.ref (L.oa st.last))] ∧ RR CR CS H0 H' (L.more st.ns.length s0 b c) { rememberM (putM st nd) nd with deepest := max st.deepest st.around.length } (T + 1)) ⟨rfl, by rw [ep]; exact R4⟩ ?_
          rintro _ H4 ⟨rfl, R4⟩
          refine nx_mk ?_
          obtain ⟨dy4, hob4⟩ := R4.ob
          have hob4 : H4 L.r = some (.ins CR dy4 (rflds (L.more st.ns.length s0 b c) (max st.deepest st.around.length))) := hob4
          have hr4 := R4.lst .r trivial
          rw [er] at hr4
          have ear4 : cont ({ rememberM (putM st nd) nd with deepest := max st.deepest st.around.length } : RS) (L.more st.ns.length s0 b c) .r = refs L st.around := refs_more RR0.wfA
          rw [ear4] at hr4
          have ela4 : List.lookup ("around" : Str) (rflds (L.more st.ns.length s0 b c) (max st.deepest st.around.length)) = some (.ref (L.la .r)) := by rw [← er]; rfl
          have hlen : (refs L st.around).length ≤ T := RR0.szL .r trivial
          refine ⟨_, rfl, L.r, CR, dy4, _, _, rfl, hob4, R.cl, R.ar, ela4, .inl ⟨rfl, _, SqL.of hr4⟩, _, rfl, L.la .r, _, _, rfl, rfl, hr4, szline hlen RR0.szT, ?_⟩
          refine k.yes eA (L' := L.more st.ns.length s0 b c) rfl ?_
          have R5 := R4.list .r trivial { rememberM (putM st nd) nd with deepest := max st.deepest st.around.length, around := st.around ++ [st.ns.length] } rfl rfl rfl rfl (fun _ _ _ _ => rfl) (fun _ _ => rfl) (fun y _ ne => by cases y <;> first | rfl | exact absurd rfl ne)
            (by show (refs _ (st.around ++ [st.ns.length])).length ≤ T + 1; unfold refs at hlen ⊢; rw [List.length_map] at hlen ⊢; rw [List.length_append]; exact Nat.succ_le_succ hlen)
            (fun i hi => by
              show i < (putM st nd).ns.length
              rw [put_len']
              rcases List.mem_append.mp hi with hi | hi
              · exact Nat.lt_succ_of_lt (RR0.wfA i hi)
              · rw [List.mem_singleton.mp hi]; exact Nat.lt_succ_self _) R4.wfB R4.wfC
          have ec : cont ({ rememberM (putM st nd) nd with deepest := max st.deepest st.around.length, around := st.around ++ [st.ns.length] } : RS) (L.more st.ns.length s0 b c) .r = refs L st.around ++ [V.ref s0] := by
            show refs _ (st.around ++ [st.ns.length]) = _
            unfold refs
            rw [List.map_append]
            have q := refs_more (L := L) (a := s0) (b := b) (c := c) RR0.wfA
            unfold refs at q
            rw [q]
            show _ ++ [V.ref ((L.more st.ns.length s0 b c).oa st.ns.length)] = _
            rw [more_on]
          rw [ec, er] at R5
          exact R5
end
end Ly
end
section
set_option Elab.async false
set_option linter.all false
set_option maxRecDepth 100000
/-! Reader.take, read_rows. -/
namespace Ly
open PySem PySem.Spec PyProof.Rows L2
theorem form_le {z : Str} {f : List Str} (h : formOf z = some f) : f.length ≤ 2 := by
  unfold formOf at h
  cases e : formsL.find? (fun p => decide (p.1 = z)) with
  | none => rw [e] at h; cases h
  | some p =>
    rw [e] at h
    have q := List.mem_of_find?_eq_some e
    have all : ∀ p ∈ formsL, p.2.length ≤ 2 := by decide +kernel
    rw [← Option.some.inj h]
    exact all p q
theorem sort_fig (z : Str) : ofSort z "figure" = isFigure z := by
  unfold ofSort
  rw [if_neg (by decide +kernel), if_neg (by decide +kernel)]
theorem form_ok {ps : List Str} (h : hasForm ps = true) (ne : ps ≠ []) : RowOk ps ∧ ((ps.getD 0 "" = "job" ∨ ps.getD 0 "" = "walk") → 1 < ps.length) := by
  obtain ⟨w0, r, rfl⟩ : ∃ w0 r, ps = w0 :: r := by
    cases ps with
    | nil => exact absurd rfl ne
    | cons a b => exact ⟨a, b, rfl⟩
  have h : (match formFor w0 (w0 :: r).length with | none => false | some f => ((w0 :: r).length == f.length + 1) && (r.zip f).all fun q => ofSort q.1 q.2) = true := h
  have g0 : (w0 :: r).getD 0 "" = w0 := rfl
  cases hf : formOf w0 with
  | none =>
    have e : formFor w0 (w0 :: r).length = none := by unfold formFor; rw [hf]; rfl
    rw [e] at h
    cases h
  | some f0 =>
    have e0 : formFor w0 (w0 :: r).length = some (if w0 = "each" ∧ (w0 :: r).length = 4 then eachL else f0) := by unfold formFor; rw [hf]; rfl
    rw [e0] at h
    have h : ((w0 :: r).length == (if w0 = "each" ∧ (w0 :: r).length = 4 then eachL else f0).length + 1 && (r.zip (if w0 = "each" ∧ (w0 :: r).length = 4 then eachL else f0)).all fun q => ofSort q.1 q.2) = true := h
    rw [Bool.and_eq_true] at h
    obtain ⟨h1, h2⟩ := h
    have h1 : (w0 :: r).length = (if w0 = "each" ∧ (w0 :: r).length = 4 then eachL else f0).length + 1 := by simpa using h1
    have h0 := form_le hf
    have fixed : ∀ z f, w0 = z → formOf z = some f → f0 = f := fun z f e q => by rw [← e, hf] at q; exact Option.some.inj q
    by_cases c : w0 = "each" ∧ (w0 :: r).length = 4
    · rw [if_pos c] at h1 h2
      obtain ⟨c1, c2⟩ := c
      refine ⟨⟨ne, by omega, fun q => ?_, fun _ => by omega, fun _ => ?_⟩, fun q => by omega⟩
      · rw [g0, c1] at q
        exact absurd q (by decide +kernel)
      · match r, c2 with
        | [x, y, z], _ =>
          rw [← sort_fig]
          have := List.all_eq_true.mp h2 (z, "figure") (by simp [eachL])
          exact this
    · rw [if_neg c] at h1 h2
      refine ⟨⟨ne, by omega, fun q => ?_, fun q => ?_, fun q => by omega⟩, fun q => ?_⟩
      · have ef := fixed "repeat" ["figure"] (by rw [← g0]; exact q) (by kernel_rfl)
        subst ef
        have hl : (w0 :: r).length = 2 := h1
        refine ⟨by omega, ?_⟩
        match r, hl with
        | [x], _ =>
          rw [← sort_fig]
          exact List.all_eq_true.mp h2 (x, "figure") (by simp)
      · have ef := fixed "each" ["name", "how"] (by rw [← g0]; exact q) (by kernel_rfl)
        subst ef
        have hl : (w0 :: r).length = 3 := h1
        omega
      · rcases q with q | q
        · have ef := fixed "job" ["name"] (by rw [← g0]; exact q) (by kernel_rfl)
          subst ef
          have hl : (w0 :: r).length = 2 := h1
          omega
        · have ef := fixed "walk" ["name"] (by rw [← g0]; exact q) (by kernel_rfl)
          subst ef
          have hl : (w0 :: r).length = 2 := h1
          omega
section
variable {P : Program} {w : World} {K : PySem.W.Frag} {mg : Str → Option Value} {base : Heap} {CR CS : Addr}
def spTake (K : PySem.W.Frag) (CR CS : Addr) : Sp := fun vs H Q _ => ∃ (a : Addr) (ps : List Str) (H0 : Hp) (L : Lay) (st : RS) (T : Nat), vs = [.ref L.r, .ref a] ∧ RR CR CS H0 H L st T ∧ T + 1 ≤ 100000 ∧ SqL K H a (ps.map V.str) ∧ ps ≠ [] ∧ ps.length ≤ 100000 ∧ (∀ z ∈ ps, z.length ≤ 100000) ∧
  Kont CR CS H0 L st (T + 1) (takeM st ps) Q
theorem sc_take : FnScope ["self", "parts", "word"] ["self", "parts"] (defScope t_Reader_take) := ⟨rfl, rfl, rfl, by decide +kernel, rfl, by decide +kernel, by decide +kernel⟩
/-- the defs that take calls -/
structure TkF (P : Program) (w : World) (K : PySem.W.Frag) (mg : Str → Option Value) (base : Heap) (CR CS : Addr) (ff fd fm fe fa fS : Addr) (df dd dm de da dS : FuncData) : Prop where
  GF : FnOk P w K mg base CX0 3 ff df ["parts"] (spHasForm K)
  aF : At K mg "has_form" ff df ["parts"]
  kF : PySem.W.keepIn K (.ref ff) = true
  GD : FnOk P w K mg base CX0 3 fd dd ["self", "parts"] (spDefine K CR CS)
  mD : Meth K CR "_define" fd
  bD : Binds K dd ["self", "parts"] []
  GM : FnOk P w K mg base CX0 1 fm dm ["self", "word"] (spMark CR CS)
  mM : Meth K CR "_mark" fm
  bM : Binds K dm ["self", "word"] []
  GE : FnOk P w K mg base CX0 1 fe de ["self"] (spEnd CR CS)
  mE : Meth K CR "_end" fe
  bE : Binds K de ["self"] []
  GA : FnOk P w K mg base CX0 3 fa da ["self", "step"] (spAdd CR CS)
  mA : Meth K CR "_add" fa
  bA : Binds K da ["self", "step"] []
  GS : FnOk P w K mg base CX0 1 fS dS ["self", "parts"] (spStep K CS)
  MS : Mk K CS fS
  bS : Binds K dS ["self", "parts"] []
theorem ok_take {f ff fd fm fe fa fS : Addr} {d df dd dm de da dS : FuncData} (F : Fun K "take" "Reader.take" t_Reader_take f d) (R : RdC K mg CR) (S : StC K mg CS) (Z : TkF P w K mg base CR CS ff fd fm fe fa fS df dd dm de da dS) : FnOk P w K mg base CX0 4 f d ["self", "parts"] (spTake K CR CS) := by
  refine F.ok sc_take (fun vs H Q E h => ?_) (fun cdv A outer s H vs Q E hr h => ?_)
  · obtain ⟨a, ps, H0, L, st, T, rfl, _⟩ := h
    rfl
  · obtain ⟨a, ps, H0, L, st, T, rfl, RR0, hT, hq, hne, hln, hz, k⟩ := h
    have nod := sc_take.nd
    have hr1 : Room 1 _ := hr.mono (by decide)
    have hr2 : Room 2 _ := hr.mono (by decide)
    refine ⟨_, pss_cons (ps_if (pt_not (pt_val (pe_call Z.GF hr rfl Z.aF.g Z.kF Z.aF.b .nil pass0 (pa_cons (pv 1) pa_nil)))) (pss_one (ps_ret pe_bl)) pss_nil)
      (pss_cons (ps_set (i := 2) nod rfl (Or.inl rfl) (pe_ix ix_list (pv 1) pe_int (fun _ _ => rfl)))
      (pss_cons (ps_if (pt_cmpR op_in_seq (pv 2) (pe_tup (pa_cons pe_str (pa_cons pe_str pa_nil))) (by rfl)) (pss_one (ps_ret (pe_meth (pv 0) R.cl Z.mD Z.GD hr Z.bD .nil pass0 (pa_cons (pv 1) pa_nil)))) pss_nil)
      (pss_cons (ps_if (pt_not (pt_truth (pe_fld (pv 0) rfl) (by intro _; rfl))) (pss_one (ps_ret pe_bl)) pss_nil)
      (pss_cons (ps_if (pt_cmpR op_in_seq (pv 2) (pe_tup (pa_cons pe_str (pa_cons pe_str pa_nil))) (by rfl)) (pss_one (ps_ret (pe_meth (pv 0) R.cl Z.mM Z.GM hr1 Z.bM .nil pass0 (pa_cons (pv 2) pa_nil)))) pss_nil)
      (pss_cons (ps_if (pt_cmpR op_eq (pv 2) pe_str (nomark _)) (pss_one (ps_ret (pe_meth0 (pv 0) R.cl Z.mE Z.GE hr1 Z.bE .nil pass0))) pss_nil)
      (pss_one (ps_ret (pe_meth (pv 0) R.cl Z.mA Z.GA hr Z.bA .nil pass0 (pa_cons (pe_make Z.MS Z.GS hr2 rfl S.g Z.bS .nil pass0 (pa_cons (pv 1) pa_nil)) pa_nil))))))))), ?_⟩
    refine ⟨_, rfl, a, ps, rfl, hq, hne, hln, hz, fun H1 q1 => ⟨_, rfl, ?_⟩⟩
    cases hF : hasForm ps with
    | false =>
      refine iteT ?_
      exact k.no (by unfold takeM; rw [if_pos hF]) ((RR0.more hT).same q1)
    | true =>
      refine iteF ?_
      obtain ⟨ok, hjw⟩ := form_ok hF hne
      have h0 : 0 < ps.length := List.length_pos_iff.mpr hne
      have e1 : takeM st ps = if ps.getD 0 "" = "job" ∨ ps.getD 0 "" = "walk" then defineM st ps else if st.around = [] then none else if ps.getD 0 "" = "late" ∨ ps.getD 0 "" = "mend" then markM st (ps.getD 0 "") else if ps.getD 0 "" = "end" then endM st else addM st (nodeOf ps) := by
        unfold takeM
        rw [if_neg (by rw [hF]; intro z; cases z)]
      refine ⟨_, rfl, a, _, _, _, rfl, rfl, q1.seq hq, at_str h0, ?_⟩
      refine nx_mk ?_
      refine ⟨_, rfl, by show 2 ≤ sizeLine; decide, fun p hp => ?_⟩
      refine ⟨p, [.str "job", .str "walk"], rfl, .inr (SqT.of upd_same), rfl, rfl, _, rfl, ?_⟩
      rw [show (if false = true then !inV (V.str (ps.getD 0 "")) [.str "job", .str "walk"] else inV (V.str (ps.getD 0 "")) [.str "job", .str "walk"]) = decide (ps.getD 0 "" = "job" ∨ ps.getD 0 "" = "walk") from inV2 _ _ _]
      have q2 := q1.trans (same_new (o := .tup [.str "job", .str "walk"]) hp)
      generalize upd H1 p (.tup [.str "job", .str "walk"]) = H2 at q2
      have R2 := RR0.same q2
      obtain ⟨dy, hob⟩ := R2.ob
      by_cases c1 : ps.getD 0 "" = "job" ∨ ps.getD 0 "" = "walk"
      · refine iteT' (decide_eq_true c1) ?_
        rw [if_pos c1] at e1
        rw [e1] at k
        exact ⟨_, rfl, L.r, dy, _, rfl, hob, rfl, _, rfl, a, ps, H0, L, st, T, rfl, R2, hT, q2.seq hq, ok, hjw c1, k⟩
      · refine iteF' (decide_eq_false c1) ?_
        rw [if_neg c1] at e1
        refine ⟨_, rfl, L.r, CR, dy, _, _, rfl, hob, R.cl, R.ar, rfl, !(refs L st.around).isEmpty, .inl ⟨_, SqL.of (R2.lst .r trivial), rfl⟩, ?_⟩
        by_cases c2 : st.around = []
        · refine iteT' (by rw [c2]; rfl) ?_
          rw [if_pos c2] at e1
          exact k.no e1 (R2.more hT)
        · refine iteF' (by cases e : st.around with | nil => exact absurd e c2 | cons i r => rfl) ?_
          rw [if_neg c2] at e1
          refine ⟨_, rfl, by show 2 ≤ sizeLine; decide, fun p2 hp2 => ?_⟩
          refine ⟨p2, [.str "late", .str "mend"], rfl, .inr (SqT.of upd_same), rfl, rfl, _, rfl, ?_⟩
          rw [show (if false = true then !inV (V.str (ps.getD 0 "")) [.str "late", .str "mend"] else inV (V.str (ps.getD 0 "")) [.str "late", .str "mend"]) = decide (ps.getD 0 "" = "late" ∨ ps.getD 0 "" = "mend") from inV2 _ _ _]
          have q3 := q2.trans (same_new (o := .tup [.str "late", .str "mend"]) hp2)
          generalize upd H2 p2 (.tup [.str "late", .str "mend"]) = H3 at q3
          have R3 := RR0.same q3
          obtain ⟨dz, hob3⟩ := R3.ob
          by_cases c3 : ps.getD 0 "" = "late" ∨ ps.getD 0 "" = "mend"
          · refine iteT' (decide_eq_true c3) ?_
            rw [if_pos c3] at e1
            rw [e1] at k
            exact ⟨_, rfl, L.r, dz, _, rfl, hob3, rfl, _, rfl, ps.getD 0 "", H0, L, st, T + 1, rfl, R3.more hT, c2, by rcases c3 with c | c <;> (rw [c]; decide +kernel), k⟩
          · refine iteF' (decide_eq_false c3) ?_
            rw [if_neg c3] at e1
            refine ⟨_, rfl, rfl, _, rfl, ?_⟩
            by_cases c4 : ps.getD 0 "" = "end"
            · refine iteT' (decide_eq_true (by rw [c4])) ?_
              rw [if_pos c4] at e1
              rw [e1] at k
              exact ⟨_, rfl, L.r, dz, _, rfl, hob3, rfl, H0, L, st, T, rfl, R3, hT, c2, k⟩
            · refine iteF' (decide_eq_false fun q => c4 (V.str.inj q)) ?_
              rw [if_neg c4] at e1
              rw [e1] at k
              refine ⟨_, rfl, L.r, dz, _, rfl, hob3, rfl, _, rfl, ?_⟩
              intro x dx nx ndx nex
              have s4 : Same H3 (upd (upd H3 dx (.own x)) x (.ins CS dx [])) := fun b o e => by rw [upd_ne (ne_of_none e nx), upd_ne (ne_of_none e ndx)]; exact e
              refine ⟨x, dx, a, ps, rfl, upd_same, s4.seq (q3.seq hq), ok, fun H' b c fb fc bc ha hb hc kp => ⟨rfl, ?_⟩⟩
              have s5 : Same H3 H' := fun b o e => kp b o (s4 b o e) (ne_of_none e nx)
              exact ⟨x, dx, b, c, nodeOf ps, H0, H3, L, st, T, rfl, R3, s5, nx, s4.free fb, s4.free fc, bc, ha, hb, hc, rfl, rfl, mark_new ps, c2, hT, k⟩
end
end Ly
end
section
set_option Elab.async false
set_option linter.all false
set_option maxRecDepth 100000
set_option maxHeartbeats 4000000
/-! Own exceptions whose __init__ says super().__init__(..), over ValueError or KeyError. -/
namespace Ly
open PySem PySem.W PySem.Calls PyProof.Rows PySem.HandSPX
abbrev keTail : List Value := [.type "KeyError", .type "LookupError", .type "Exception", .type "BaseException", .type "object"]
theorem pass_ke (x : Value) : refuseLoop x "__setattr__" keTail = pure () := by kernel_rfl
/-- the built-in __init__ that super() finds -/
structure InF (B i : String) : Prop where
  kxs : KxsFacts B i
  kind : builtinKind i = some .slot
  row : Manifest.signature? i = some ⟨.positional, "*", B, .self, [⟨"args", .varPos, false⟩]⟩
  star : (B != "*") = true
  entry : entryFor table i = some Builtin.«BaseException.__init__»
  plain : plainId i = true
theorem inf_KE : InF "KeyError" "KeyError.__init__" where
  kxs := ⟨by show builtinType _ = _; rw [builtinType_eq_fast]; kernel_rfl, by first | kernel_rfl | rfl⟩
  kind := by kernel_rfl
  row := by kernel_rfl
  star := by decide +kernel
  entry := entryFor_alias (id' := "BaseException.__init__") (by rw [fastTable_eq_tree]; kernel_rfl) (by first | rfl | decide +kernel) (by decide +kernel) (by rw [fastTable_eq_tree]; kernel_rfl)
  plain := by decide +kernel
theorem inf_VE : InF "ValueError" "ValueError.__init__" where
  kxs := kxs_ValueError
  kind := F.excBase_ValueError.initKind
  row := F.excBase_ValueError.initRow
  star := F.excBase_ValueError.noStar
  entry := F.excBase_ValueError.initEntry
  plain := F.excBase_ValueError.init.plain

/-- what is asked of the classes above an own exception class: a maker, no veto on stores -/
structure Abv (bm : List Value) (B newId initId : String) (bmB : List Value) : Prop where
  F : ExcBaseFacts B newId initId bmB
  cB : bm.contains (.type B) = true
  cA : bm.contains (.type "AttributeError") = false
  cN : bm.contains (.type "NameError") = false
  cO : bm.contains (.type "object") = true
  st : ∀ x : Value, refuseLoop x "__setattr__" bm = pure ()
theorem abv_KE : Abv keTail "LookupError" "LookupError.__new__" "LookupError.__init__" [.type "LookupError", .type "Exception", .type "BaseException", .type "object"] :=
  ⟨F.excBase_LookupError, by decide +kernel, by decide +kernel, by decide +kernel, by decide +kernel, pass_ke⟩
theorem abv_VE {bm : List Value} (h : refsVE bm = true) : Abv bm "ValueError" "ValueError.__new__" "ValueError.__init__" veTail :=
  ⟨F.excBase_ValueError, by rw [refsVE_contains _ _ h]; decide +kernel, by rw [refsVE_contains _ _ h]; decide +kernel, by rw [refsVE_contains _ _ h]; decide +kernel, by rw [refsVE_contains _ _ h]; decide +kernel, fun x => refsVE_pass x bm h⟩

section
variable {prog : Program} {w : World} {M : Model} {A : Around} {E : Value → Shared → Prop} {R : Result → Shared → Prop} {hp : Heap} {gs : Array GenState} {dr : Drawn} {tk : Nat} {os : OsState}
variable {nm qn : Str} {C N : Addr} {bs bm bmB : List Value} {hdct : Bool} {sn : List Str} {sub : List Value} {ab : Bool} {col : Option Bool} {dd : Option Addr} {k0 k1 k2 k3 k5 : Option Value} {B newId initId : String}
theorem own_check (V : Abv bm B newId initId bmB) {args : List Value} {Q : Unit → Shared → Prop} (hC : hp.get? C = some (excClassObj nm qn C N bs bm hdct sn sub ab col dd k0 k1 k2 k3 k5 newId))
    (h : Q () ⟨hp, gs, dr, tk, os⟩) : wpAny M A (checkBuiltinCall newId ⟨.ref C :: args, []⟩) Q E ⟨hp, gs, dr, tk, os⟩ := by
  have cc : (Value.ref C :: bm).contains (.type B) = true := by rw [List.contains_cons, V.cB, Bool.or_true]
  have ns := V.F.noStar
  simp only [checkBuiltinCall, V.F.newSplit, V.F.newRow, V.F.newKind]
  repeat (first | refine wpAny_madeBy_exc hC ?_ | refine wpAny_staticBase_exc hC ?_ | (refine wpAny_isSubtype_exc hC ?_; rw [cc]) | refine wpAny_loadPart_at hC ?_ | simp only [bne_self_eq_false, Bool.false_eq_true, if_false] | wp_step)
  exact h
theorem own_new (V : Abv bm B newId initId bmB) {args : List Value} (hC : hp.get? C = some (excClassObj nm qn C N bs bm hdct sn sub ab col dd k0 k1 k2 k3 k5 newId)) (hl : args.length ≤ sizeLine)
    (h : R (.ok (.ret (.ref (hp.objs.size + 1)))) ⟨(hp.push (kdv_tup args)).push (excO C hp.objs.size), gs, dr, tk, os⟩) :
    codeAny (model prog w) A (.builtin newId ⟨.ref C :: args, []⟩) R ⟨hp, gs, dr, tk, os⟩ := by
  have ee := V.F.ends
  have xA : (Value.ref C :: bm).contains (.type "AttributeError") = false := by rw [List.contains_cons, V.cA]; rfl
  have xN : (Value.ref C :: bm).contains (.type "NameError") = false := by rw [List.contains_cons, V.cN]; rfl
  have xB : (Value.ref C :: bm).contains (.type B) = true := by rw [List.contains_cons, V.cB, Bool.or_true]
  refine codeAny_builtinAt V.F.entry ?_
  unfold Builtin.«BaseException.__new__»
  refine PySem.wpAt_bind ?_
  show PySem.wpAt _ _ _ (stack >>= _) _ _ _
  refine PySem.wpAt_bind (PySem.wpAt_stack fun p below => PySem.wpAt_of_wpAny ?_)
  wp_walk
  refine PySem.wpAt_of_wpAny ?_
  rw [V.F.owner]
  repeat (first | with_reducible refine wpAny_loadPart_at hC ?_ | with_reducible refine wpAny_madeHere_exc V.F.canon hC ?_ | (with_reducible refine wpAny_isSubtype_exc hC ?_; first | rw [xA] | rw [xN] | rw [xB]) | wp_step)
  show R _ _
  rw [Heap.size_push]
  exact h
theorem own_type (V : Abv bm B newId initId bmB) {args : List Value} {fI : Addr} {Q : Fin → Shared → Prop} (hC : hp.get? C = some (excClassObj nm qn C N bs bm hdct sn sub ab col dd k0 k1 k2 k3 k5 newId)) (hl : args.length ≤ sizeLine)
    (hi : Looks (model prog w) hp (typeLookup (.ref C) "__init__") (some (.ref fI))) (hb : ∀ x, Looks (model prog w) hp (bindSpecial (.ref fI) x) (.ref fI, [x]))
    (h : codeAny (model prog w) A (.call (.ref fI) ⟨.ref (hp.objs.size + 1) :: args, []⟩) (fun r s' => match r with | .ok (.ret v) => v = .none ∧ Q (.done (.ret (.ref (hp.objs.size + 1)))) s' | .ok _ => False | .error e => E e s')
      ⟨(hp.push (kdv_tup args)).push (excO C hp.objs.size), gs, dr, tk, os⟩) : wpAny (model prog w) A (Builtin.«type.__call__» ⟨.ref C :: args, []⟩) Q E ⟨hp, gs, dr, tk, os⟩ := by
  repeat (first | with_reducible refine wpAny_madeBy_exc hC ?_ | with_reducible refine wpAny_loadPart_at hC ?_ | wp_step)
  refine codeAny_call_builtin_code (Code.quiet_builtin _ V.F.quiet) (own_check V hC (own_new V hC hl ?_))
  show wpAny _ _ _ _ _ _
  have up : ∀ b o, hp.get? b = some o → ((hp.push (kdv_tup args)).push (excO C hp.objs.size)).get? b = some o := fun b o z => Heap.get?_push_of_some _ (Heap.get?_push_of_some _ z)
  have gx : ((hp.push (kdv_tup args)).push (excO C hp.objs.size)).get? (hp.objs.size + 1) = some (excO C hp.objs.size) := by heap_get
  have cs : (Value.ref C :: bm).contains (.ref C) = true := by simp
  have hC2 := up _ _ hC
  unfold isInstance
  repeat (first | with_reducible refine wpAny_loadPart_at gx ?_ | (with_reducible refine wpAny_isSubtype_exc hC2 ?_; rw [cs]) | wp_step)
  show wpAny _ _ (typeLookup (.ref C) _) _ _ _
  refine (hi.keeps up).at ?_
  refine wpAny_holding (wpAny_bind (((hb (.ref (hp.objs.size + 1))).keeps up).at (wpAny_bind (wpAny_call (codeAny_mono h fun r s' z => ?_)))))
  rcases r with e | (v | _ | _ | _) <;> first | exact z.elim | exact z | skip
  obtain ⟨rfl, z⟩ := z
  first
    | (wp_walk; exact z)
    | exact wpAny_pure (wpAny_pure z)
theorem own_call (V : Abv bm B newId initId bmB) {args : List Value} {fI : Addr} (hC : hp.get? C = some (excClassObj nm qn C N bs bm hdct sn sub ab col dd k0 k1 k2 k3 k5 newId)) (hl : args.length ≤ sizeLine)
    (hi : Looks (model prog w) hp (typeLookup (.ref C) "__init__") (some (.ref fI))) (hb : ∀ x, Looks (model prog w) hp (bindSpecial (.ref fI) x) (.ref fI, [x]))
    (h : codeAny (model prog w) (A.under (.builtin "type.__call__" ⟨.ref C :: args, []⟩)) (.call (.ref fI) ⟨.ref (hp.objs.size + 1) :: args, []⟩) (InitBack (hp.objs.size + 1) R) ⟨(hp.push (kdv_tup args)).push (excO C hp.objs.size), gs, dr, tk, os⟩) :
    codeAny (model prog w) A (.call (.ref C) ⟨args, []⟩) R ⟨hp, gs, dr, tk, os⟩ := by
  have hT : (⟨hp, gs, dr, tk, os⟩ : Shared).TypeIs (.ref C) "type" := ⟨_, hC, rfl⟩
  have g1 := tc_lookup
  have g2 := tc_bind (.ref C)
  refine codeAny_of_tree ?_
  show wpAny _ _ (callAny (.ref C) _) _ _ _
  repeat (any_goals (first | assumption | with_reducible refine wpAny_loadPart_at hC ?_ | wp_step))
  refine ⟨rfl, codeAny_call_builtin_at (Code.quiet_builtin _ (by decide +kernel)) entry_typeCall (wpAny_check_type_call_sub hC (own_type V hC hl hi hb (codeAny_mono h fun r s' z => ?_)))⟩
  rcases r with e | (v | _ | _ | _) <;> exact z
/-- the bound __init__ of the built-in class, called: the args are laid anew -/
theorem own_super {i : String} {u x t0 : Addr} {args : List Value} {Q : Value → Shared → Prop} (I : InF B i) (hC : hp.get? C = some (excClassObj nm qn C N bs bm hdct sn sub ab col dd k0 k1 k2 k3 k5 newId)) (hx : hp.get? x = some (excO C t0)) (hu : hp.get? u = some (kxs_mw i x))
    (hl : args.length ≤ sizeLine) (h : ∀ h' t1, (∀ b o, b ≠ x → hp.get? b = some o → h'.get? b = some o) → h'.get? x = some (excO C t1) → Q .none ⟨h', gs, dr, tk, os⟩) :
    wpAny (model prog w) A (call (.ref u) args) Q E ⟨hp, gs, dr, tk, os⟩ := by
  refine wpAny_call (codeAny_of_tree ?_)
  show wpAny _ A.in1 (callAny (.ref u) ⟨args, []⟩) _ _ _
  simp only [callAny]
  refine wpAny_bind (wpAny_load hu ?_)
  have ty : (Value.type "method-wrapper" == Value.type "method" || Value.type "method-wrapper" == Value.type "builtin_function_or_method" || Value.type "method-wrapper" == Value.type "method-wrapper") = true := by decide
  simp only [kxs_mw, ty, if_true]
  refine KFB.if_so (by decide) ?_
  have ns := I.star
  refine wpAny_bind (m := checkBoundCall i ⟨.ref x :: args, []⟩) ?_
  simp only [checkBoundCall, I.kind, I.row]
  repeat (first | (with_reducible refine wpAny_loadPart_at hx ?_) | with_reducible refine wpAny_loadPart_at hC ?_ | wp_step)
  refine wpAny_onRaise ?_
  rw [show ∀ (a b : String) (n : Nat), Bind.check ⟨.positional, "*", B, .self, [⟨"args", .varPos, false⟩]⟩ a b n (List.map (fun x => x.fst) ({ pos := Value.ref x :: args } : Args).kw) = pure () from fun a b n => check_star_args _ _ _ _ _ _]
  refine wpAny_pure ?_
  refine wpAny_bind (wpAny_pure (wpAny_pure ⟨plainId_quiet I.plain _, codeAny_builtin I.entry ?_⟩))
  exact exc_init_tree (cls := .ref C) (t0 := t0) (dv := none) (c2 := .none) (c3 := .none) (b4 := .bool false) hx hl fun h' k e _ => h h' _ k e
end
end Ly
end
section
set_option Elab.async false
set_option linter.all false
set_option maxRecDepth 100000
set_option maxHeartbeats 4000000
/-! .. their __init__ as a def, self.f = v, C(e), raise. -/
namespace Ly
open PySem PySem.Spec PyProof.Rows PySem.HandSPX L2
/-- an own exception class at C: what the top has left of it -/
structure OwC (K : PySem.W.Frag) (C : Addr) (Bi i : String) : Prop where
  cls : ∃ nm q N bs bm sn sub ab col dd k0 k1 k2 k3 k5 B newId initId bmB, K.lookup C = some (excClassObj nm q C N bs bm true sn sub ab col dd k0 k1 k2 k3 k5 newId) ∧ Abv bm B newId initId bmB ∧ PySem.W.alongIn K "__init__" bm = some (some (.builtin i))
  inf : InF Bi i
  sub : PySem.W.subIn K (.ref C) (.type Bi) = some true
  sa : PySem.W.findIn K (.ref C) "__setattr__" = some (some (.builtin "object.__setattr__"))
  exC : PySem.W.subIn K (.ref C) (.type "BaseException") = some true
  tyC : PySem.W.typeIn K (.ref C) = some (.type "type")
  kC : PySem.W.keepIn K (.ref C) = true
  op : PySem.W.nsIn K cStatics "thirdparty.any" = some none

section
open Builtin Builtin.ObjectAttr
variable {prog : Program} {w : World} {A : Around} {R : Result → Shared → Prop} {hp : Heap} {gs : Array GenState} {dr : Drawn} {t : Nat} {os : OsState}
/-- the first field of an own exception -/
theorem own_osa {K : PySem.W.Frag} {name : Str} {tk : Tok} {v : Value} {x C : Addr} {fv : Array Value} {cd : ClassData} (X : K.In hp) (hx : hp.get? x = some { cls := .ref C, data := .fields fv }) (hcd : PySem.W.clsIn K C = some cd)
    (ne : cd.mro.isEmpty = false) (cO : cd.mro.contains (.type "object") = true) (st : refuseLoop (.ref x) "__setattr__" cd.mro = pure ()) (hd : cd.hasDict = true) (no : PySem.W.findIn K (.ref C) name = some none)
    (h : ∀ h' tk' dx, (∀ b o, b ≠ x → hp.get? b = some o → h'.get? b = some o) → hp.objs.size ≤ dx → dx ≠ x → h'.get? x = some { cls := .ref C, dict := some dx, data := .fields fv } →
      h'.Ns1 dx (fun y => if y = name then some v else none) → R (.ok (.ret .none)) ⟨h', gs, dr, tk', os⟩) :
    codeAny (model prog w) A (.call (.builtin "object.__setattr__") ⟨[.ref x, .str name tk, v], []⟩) R ⟨hp, gs, dr, t, os⟩ := by
  have J : PySem.W.InstAt hp x { cls := .ref C, data := .fields fv } C none := ⟨hx, rfl, rfl, trivial⟩
  have xs : x ≠ hp.objs.size := Nat.ne_of_lt (Heap.lt_size hx)
  have S0 := F.store_object
  have isO : PySem.W.Looks (model prog w) hp (isInstance (.ref x) (.type "object")) true := J.type.andThen (PySem.W.looks_mroIn X (by unfold PySem.W.mroIn; rw [hcd, Option.bind_some, if_neg (by rw [ne]; decide), cO]))
  refine codeAny_call_builtin S0.slot.plain S0.entry (@PySem.W.check_slot (model prog w) _ _ ⟨hp, gs, dr, t, os⟩ "object.__setattr__" "object" "__setattr__" (.ref x) [.str name tk, v] [] _ S0.kind S0.split isO (S0.args (.ref x) (.str name tk) v) ?_)
  have Lm : PySem.W.Looks (model prog w) hp (mroOf (.ref C)) cd.mro := (PySem.W.looks_clsIn X hcd).andThen .now
  have Lc : PySem.W.Looks (model prog w) hp (classData C) cd := PySem.W.looks_clsIn X hcd
  have Ls : PySem.W.Looks (model prog w) hp (storeTaker? none) none := .now
  rw [PySem.W.osa_eq, refuse_eq]
  refine wpAny_bind (wpAny_bind (J.type.at (wpAny_bind (Lm.at ?_))))
  rw [st]
  refine wpAny_pure (wpAny_bind (J.type.at (wpAny_bind ((PySem.W.looks_findIn X no).at (wpAny_bind (Ls.at ?_))))))
  show wpAny _ _ (storeInOwnDict (.ref x) (.ref C) (.str name tk) name v false) _ _ _
  obtain ⟨nm, bs, mro, ns, qn, hd', sn, sb, ab, col, del⟩ := cd
  dsimp only at hd
  subst hd
  unfold storeInOwnDict ownDictForStores
  repeat (first | with_reducible refine wpAny_loadPart_at hx ?_ | with_reducible refine store_in_new ?_ ?_ | with_reducible refine Lc.at ?_ | wp_step)
  · exact ⟨_, #[], _, (Heap.get?_update_ne _ _ _ _ xs.symm).trans (Heap.get?_push_at rfl rfl), rfl, fun e z => absurd z (by simp), fun _ => rfl⟩
  · intro h' tk' n1 sb1
    have hx1 : (hp.push { cls := .type "dict", data := .dict #[] }).get? x = some { cls := .ref C, data := .fields fv } := Heap.get?_push_of_some _ hx
    exact h h' tk' hp.objs.size (fun b o hb z => (sb1.2 b (Nat.ne_of_lt (Heap.lt_size z))).trans ((Heap.get?_update_ne _ _ _ _ hb).trans (Heap.get?_push_of_some _ z))) (Nat.le_refl _) xs.symm
      ((sb1.2 x xs).trans (Heap.get?_update_self _ hx1 rfl)) n1
end
section
variable {X : Cx} {pins : List (Addr × Obj)} {σ : L2.St} {H : Hp} {s : Shared} {a C : Addr} {f : Str} {y : V} {u : Value} {Q : Unit → Shared → Prop} {E : Value → Shared → Prop} {A : Around} {Bi i : String}
/-- self.f = y -/
theorem own_store (T : OwC X.K C Bi i) (I : Inv X pins σ H s) (e : H a = some (exo a C none)) (no : PySem.W.findIn X.K (.ref C) f = some none) (ry : RelV y u)
    (h : ∀ dx s', H dx = none → dx ≠ a → Inv X pins σ (upd (upd H dx (exd dx [(f, y)])) a (exo a C (some dx))) s' → Q () s') : wpAny (model X.prog X.w) A (setAttr (.ref a) f u) Q E s := by
  obtain ⟨nm, q, N, bs, bm, sn, sub, ab, col, dd, k0, k1, k2, k3, k5, B, newId, initId, bmB, hC, V, _⟩ := T.cls
  have hcl : PySem.W.clsIn X.K C = some { name := nm, bases := bs, mro := .ref C :: bm, ns := N, qualname := q, hasDict := true, slotNames := sn, subclasses := sub, abstract := ab, collection := col, hasDel := false } := by unfold PySem.W.clsIn; rw [hC] <;> rfl
  obtain ⟨t1, ho⟩ := exo_at I.hok e
  obtain ⟨hp, g, d, t, os⟩ := s
  refine PySem.W.set_plain I.kIn (od := none) (ox := { cls := .ref C, dict := none, data := .fields #[.ref t1, .none, .none, .none, .bool false, .none] }) ⟨ho, rfl, rfl, trivial⟩ T.sa ?_
  refine own_osa I.kIn ho hcl rfl (by show (Value.ref C :: bm).contains _ = true; rw [List.contains_cons, V.cO, Bool.or_true]) (by show refuseLoop _ _ (.ref C :: bm) = _; rw [refuseLoop_ref]; exact V.st _) rfl no (fun h' tk' dx k dn dne hx hn => ?_)
  have fd : H dx = none := I.hok.fresh dn
  have ok : ∀ {b : Addr} {o : Obj}, hp.get? b = some o → b ≠ dx := fun {b o} z => Nat.ne_of_lt (Nat.lt_of_lt_of_le (Heap.lt_size z) dn)
  have na : ∀ {b : Addr}, H b = none → b ≠ a := fun {b} z w => by
    rw [w, e] at z
    cases z
  have U : Un X.fs [] H (upd (upd H dx (exd dx [(f, y)])) a (exo a C (some dx))) hp h' := by
    refine ⟨fun b o z n _ _ => k b o (na n) z, fun b o z n _ _ => ⟨o.slots, k b o (na n) z⟩, fun b o z n _ => by rw [upd_ne (na n), upd_ne (ok z)]; exact n, fun b o z _ => ?_, fun b xs z => by rw [upd_ne (at_ne e z exo_tup), upd_ne (ne_of_none z fd)]; exact z,
      fun b o v z => by rw [upd_ne (at_ne e z exo_frz), upd_ne (ne_of_none z fd)]; exact z, fun b ps z => ⟨#[], by rw [upd_ne (at_ne e z exo_tbl), upd_ne (ne_of_none z fd), z]; simp⟩⟩
    by_cases hb : b = a
    · exact ⟨_, by rw [hb]; exact hx⟩
    · exact ⟨o, k b o hb z⟩
  refine h dx _ fd dne (I.un (t' := tk') U fun b o z => ?_)
  by_cases hb : b = a
  · subst hb
    rw [upd_same] at z
    cases z
    exact exo_ok hx
  rw [upd_ne hb] at z
  by_cases hd : b = dx
  · subst hd
    rw [upd_same] at z
    cases z
    exact exd_ok hn (relO_put (fs := []) ry fun g => True.intro)
  rw [upd_ne hd] at z
  refine (I.hok b o z).stay (fun c v hc y => k c v ?_ y) (fun c hc => by rw [upd_ne (at_ne e hc exo_own), upd_ne (ne_of_none hc fd)]; exact hc) (fun c xs hc => by rw [upd_ne (at_ne e hc exo_tup), upd_ne (ne_of_none hc fd)]; exact hc)
  rcases hc with hc | hc
  · rw [hc]
    exact hb
  · exact at_ne e hc exo_own
end
/-- self.f = e, the first one -/
def tOwn (K : PySem.W.Frag) (f : Str) (to te : TE) : TS := fun D σ H => te σ H fun y H1 => to σ H1 fun x H2 => ∃ (a C : Addr) (Bi i : String), x = .ref a ∧ OwC K C Bi i ∧ PySem.W.findIn K (.ref C) f = some none ∧
  H2 a = some (exo a C none) ∧ ∀ dx, H2 dx = none → dx ≠ a → D.nx σ (upd (upd H2 dx (exd dx [(f, y)])) a (exo a C (some dx)))
theorem ps_own {X : Cx} {o e : Expr} {to te : TE} {f : Str} {p' pos : Pos} (ho : PE X o to) (he : PE X e te) (hs : swapsWith e (some (.Attribute o f p')) pos.line X.env = pure false := by rfl) : PS X (.Assign [.Attribute o f p'] e pos) (tOwn X.K f to te) := by
  refine ⟨fun pins s σ H D I h => plainObj_wpAny_Assign_Attribute (thn (he.run pins s σ H _ I h) fun v s1 ⟨y, H1, I1, r1, q1⟩ => thn (ho.run pins s1 σ H1 _ I1 q1) fun u s2 ⟨x, H2, I2, r2, a, C, Bi, i, ex, T, no, ea, q⟩ => ?_) hs⟩
  subst ex
  obtain rfl : u = Value.ref a := r2
  exact own_store T I2 ea no r1 fun dx s' n ne J => ⟨σ, _, J, q dx n ne⟩
end Ly
end
section
set_option Elab.async false
set_option linter.all false
set_option maxRecDepth 100000
set_option maxHeartbeats 4000000
namespace Ly
open PySem PySem.Spec PyProof.Rows PySem.HandSPX L2
open PySem.W (ksEnv ksFn kxs_mw)
/-- the context of a def that says super() -/
def cxS (CX : CXT) (P : Program) (w : World) (K : PySem.W.Frag) (mg : Str → Option Value) (base : Heap) (N : List Str) (qual : Str) (scope : Scope) (f cda cc : Addr) (A : Around) (outer : List Env) (s : Shared) (H : Hp) (E : XK) : Cx where
  prog := P
  w := w
  K := K
  mg := mg
  base := base
  A := A.deeper (ksEnv qual scope s.heap.objs.size f (.ref cda) cc)
  N := N
  s_0 := s
  H_0 := H
  env := ksEnv qual scope s.heap.objs.size f (.ref cda) cc
  outer := outer
  stack := ksEnv qual scope s.heap.objs.size f (.ref cda) cc :: outer
  ex := []
  calm := true
  fn := fun _ => false
  pn := []
  xe := fun e s' => wpAny (model P w) (A.deeper (ksEnv qual scope s.heap.objs.size f (.ref cda) cc)) (leaving (ksEnv qual scope s.heap.objs.size f (.ref cda) cc) e) (fun _ s'' => CX outer H s E e s'') (fun e' s'' => CX outer H s E e' s'') s'
/-- what a slot holds at the start was passed -/
theorem start_at {N : List Str} {vs : List V} {i : Nat} {v : V} (h : (L2.start N vs)[i]? = some (some v)) : i < vs.length ∧ vs[i]? = some v := by
  have h : (vs.map some ++ List.replicate (N.length - vs.length) none)[i]? = some (some v) := h
  rcases Nat.lt_or_ge i vs.length with lt | ge
  · refine ⟨lt, ?_⟩
    rw [List.getElem?_append_left (by rw [List.length_map]; exact lt), List.getElem?_map] at h
    rcases q : vs[i]? with _ | b
    · rw [q] at h; exact (nomatch h)
    · rw [q] at h; rw [Option.some.inj (Option.some.inj h)]
  · rw [List.getElem?_append_right (by rw [List.length_map]; exact ge), List.getElem?_replicate] at h
    split at h
    · exact (nomatch h)
    · exact (nomatch h)
structure SupScope (N P : List Str) (sc : Scope) : Prop where
  kind : sc.kind = .function
  co : sc.isCoroutine = false
  gen : sc.isGenerator = false
  nd : N.Nodup
  pre : N.take P.length = P
  par : ∀ x ∈ P, sc.names.lookup x = some .local
  cell : ∀ y ∈ sc.names, y.2 ≠ .cell
  free : ∀ y ∈ sc.names, y.2 = .free → y.1 = "__class__"
  sup : sc.names.lookup ("super" : Str) = some .globalImplicit
  cls : sc.names.lookup ("__class__" : Str) = some .free
def supC (N P : List Str) (sc : Scope) : Bool :=
  decide (sc.kind = .function) && (!sc.isCoroutine && (!sc.isGenerator && (decide N.Nodup && (decide (N.take P.length = P) && (P.all (fun x => decide (sc.names.lookup x = some .local)) && (sc.names.all (fun y => !decide (y.2 = .cell)) &&
    (sc.names.all (fun y => !decide (y.2 = .free) || decide (y.1 = "__class__")) && (decide (sc.names.lookup ("super" : Str) = some .globalImplicit) && decide (sc.names.lookup ("__class__" : Str) = some .free)))))))))
theorem supScope_by {N P : List Str} {sc : Scope} (h : supC N P sc = true) : SupScope N P sc := by
  unfold supC at h
  simp only [Bool.and_eq_true, Bool.not_eq_true', decide_eq_true_eq, List.all_eq_true, Bool.or_eq_true, decide_eq_false_iff_not] at h
  obtain ⟨h1, h2, h3, h4, h5, h6, h7, h8, h9, h10⟩ := h
  exact ⟨h1, h2, h3, h4, h5, h6, h7, fun y hy e => (h8 y hy).resolve_left fun z => z e, h9, h10⟩
theorem rev_lookup {x : Str} {v : Value} : ∀ {P : List Str} {us : List Value} {i : Nat}, P.Nodup → P[i]? = some x → us[i]? = some v → (P.zip us).reverse.lookup x = some v
  | [], _, _, _, h, _ => by simp at h
  | _ :: _, [], _, _, _, h => by simp at h
  | p :: P, u :: us, i, nd, h1, h2 => by
    obtain ⟨n1, n2⟩ := List.nodup_cons.mp nd
    rw [List.zip_cons_cons, List.reverse_cons, List.lookup_append]
    match i, h1, h2 with
    | 0, h1, h2 =>
      obtain rfl : p = x := Option.some.inj h1
      obtain rfl : u = v := Option.some.inj h2
      have z : (P.zip us).reverse.lookup p = none := by
        rw [List.lookup_eq_none_iff]
        intro q hq
        have := (List.of_mem_zip (List.mem_reverse.mp hq)).1
        simp only [beq_eq_false_iff_ne, ne_eq, bne_iff_ne]
        intro e
        exact n1 (e ▸ this)
      rw [z]
      simp [List.lookup]
    | i + 1, h1, h2 =>
      rw [rev_lookup n2 (by simpa using h1) (by simpa using h2)]
      rfl
section
variable {CX : CXT} {P : Program} {w : World} {K : PySem.W.Frag} {mg : Str → Option Value} {base : Heap}
theorem inv_sup {N ps : List Str} {qual : Str} {scope : Scope} {f cda cc : Addr} {A : Around} {outer : List Env} {s : Shared} {h₁ : Heap} {H : Hp} {E : XK} {us : List Value} {vs : List V} {cv cl : Value} {cld : Option Addr} {csl : Array (Option Value)} {t : Nat}
    (S : SupScope N ps scope) (hd : A.handled = none) (e0 : Env0 P w K mg base A outer s H) (hl : vs.length = ps.length) (r : Vals vs us) (hcc : K.lookup cc = some ⟨cl, cld, .cell (some cv), csl⟩)
    (hns : h₁.Ns s.heap.objs.size (fun x => (ps.zip us).reverse.lookup x)) (hk : ∀ b o, s.heap.get? b = some o → h₁.get? b = some o) :
    Inv (cxS CX P w K mg base N qual scope f cda cc A outer s H E) [] (L2.start N vs) H { s with heap := h₁, toks := t } := by
  have KX : K.In s.heap := e0.mod.kin.keeps fun b o e => (e0.bs b o e).1
  have one : ∀ {x c}, List.lookup x [(("__class__" : Str), cc)] = some c → c = cc ∧ x = "__class__" := fun {x c} z => by
    rw [List.lookup_cons] at z
    split at z
    · rename_i q
      exact ⟨(Option.some.inj z).symm, by simpa using q⟩
    · cases z
  have noA : ∀ b : Addr, b ∉ (cxS CX P w K mg base N qual scope f cda cc A outer s H E).ex := fun b z => absurd (show b ∈ ([] : List Addr) from z) (by simp)
  have fst : ∀ {y}, scope.names.lookup y = some .free → y = "__class__" := fun {y} z => S.free _ (PySem.mem_of_lookup z) rfl
  have hpl : ps.length ≤ N.length := by
    have z := congrArg List.length S.pre
    rw [List.length_take] at z
    omega
  refine ⟨⟨e0.mod, S.kind, rfl, rfl, Nat.le_refl _, fun y z c h1 h2 => (one h1).2.trans (one h2).2.symm, fun y hy => ?_, fun y c z _ => Bool.noConfusion z, fun _ => hd, Around.frames_deeper e0.frames, .inr ⟨rfl, rfl⟩, fun b z => absurd z (noA b), e0.bs, e0.bsz, fun b _ _ => noA b, fun b z => absurd z (noA b), e0.funs, e0.frf⟩,
    rfl, e0.bare, Un.kept hk, ⟨_, hns, fun i y v h1 h2 h3 => ?_⟩, fun y c z => ?_, e0.hok.fresh (Nat.le_refl _), fun y c z => ?_, fun p hp => absurd (show p ∈ ([] : List (Addr × Obj)) from hp) (by simp), e0.hok.kept hk, ?_⟩
  · have hy : scope.names.lookup y = some .cell ∨ scope.names.lookup y = some .free := hy
    rcases hy with hy | hy
    · exact absurd rfl (S.cell _ (PySem.mem_of_lookup hy))
    · exact ⟨cc, by rw [fst hy]; rfl⟩
  · obtain ⟨hi, given⟩ := start_at h2
    obtain ⟨u, hu, rv⟩ := r.get given
    have hp : ps[i]? = some y := by
      have z : N[i]? = some y := h1
      rw [← S.pre, List.getElem?_take_of_lt (by omega)]
      exact z
    have nd : ps.Nodup := by
      rw [← S.pre]
      exact S.nd.sublist (List.take_sublist _ _)
    exact ⟨u, rv, .inl ⟨S.par y (List.mem_of_getElem? hp), rev_lookup nd hp hu⟩⟩
  · obtain ⟨rfl, _⟩ := one z
    exact ⟨some cv, _, hk _ _ (KX _ _ hcc), rfl⟩
  · obtain ⟨rfl, _⟩ := one z
    exact (e0.bs _ _ (e0.mod.kin _ _ hcc)).2
  · unfold L2.start
    show _ = N.length
    rw [List.length_append, List.length_map, List.length_replicate]
    omega
/-- the text's part of a def that begins with super().__init__(e, ..) -/
structure SupF (P : Program) (K : PySem.W.Frag) (C fI : Addr) (qual : Str) (st : Stmt) (fd : FuncData) : Prop where
  ex : ∃ (oc : Value) (od : Option Addr) (dV kV doc pm : Value) (an : Option Addr) (cda cc : Addr) (ct : Value) (osl : Array (Option Value)) (ccl : Value) (cdd : Option Addr) (xs : Array Value) (ccs : Array (Option Value)) (file : Str) (tf : Tok) (cl : Value) (cld : Option Addr) (csl : Array (Option Value)),
    fd = ksFn "__init__" qual (defArgs st) (defBody st) (defScope st) dV kV doc pm an (.ref cda) ct cc ∧ K.lookup fI = some ⟨oc, od, .func fd, osl⟩ ∧ PySem.W.codeIn K (.ref cda) qual = true ∧
    K.lookup cda = some ⟨ccl, cdd, .fields xs, ccs⟩ ∧ xs[2]? = some (.str file tf) ∧ ((P.main.file : Str) == file) = true ∧ K.lookup cc = some ⟨cl, cld, .cell (some (.ref C)), csl⟩
theorem fn_super {C fI : Addr} {qual : Str} {st : Stmt} {fd : FuncData} {N ps : List Str} {k : Nat} {sp : Sp} {Bi i : String} {p0 p1 ap cp ep : Pos} {e : Expr} {es : List Expr} {rest : List Stmt} {ar : Arg} (F : SupF P K C fI qual st fd) (S : SupScope N ps (defScope st)) (T : OwC K C Bi i)
    (hb : defBody st = .Expr (.Call (.Attribute (.Call (.Name "super" p0) [] [] p1) "__init__" ap) (e :: es) [] cp) ep :: rest) (har : ((defArgs st).posonlyargs ++ (defArgs st).args).head? = some ar) (hN : ps[0]? = some ar.arg)
    (hsu : mg "super" = none) (htop : (P.main.scope.names.lookup ("super" : Str)).isSome = false)
    (len : ∀ vs H Q E, sp vs H Q E → vs.length = ps.length)
    (hbody : ∀ (cda cc : Addr) (A : Around) (outer : List Env) (s : Shared) (H : Hp) (vs : List V) (Q : VK) (E : XK), Room k (A.deeper (ksEnv qual (defScope st) s.heap.objs.size fI (.ref cda) cc)) → sp vs H Q E →
      ∃ (a : Addr) (ta : TA) (t : TS), vs[0]? = some (.ref a) ∧ H a = some (exo a C none) ∧ PA (cxS CX P w K mg base N qual (defScope st) fI cda cc A outer s H E) (e :: es) ta ∧ PSs (cxS CX P w K mg base N qual (defScope st) fI cda cc A outer s H E) rest t ∧
        ta (L2.start N vs) H fun ws H1 => ws.length ≤ 1000 ∧ H1 a = some (exo a C none) ∧ t { nx := fun _ H' => Q .non H', rt := Q } (L2.start N vs) H1)
    (he : ∀ L cda cc, starEach (e :: es) (ksEnv qual (defScope st) L fI (.ref cda) cc) = (false, eval e (ksEnv qual (defScope st) L fI (.ref cda) cc)) :: starEach es (ksEnv qual (defScope st) L fI (.ref cda) cc))
    (hpl : ∀ L cda cc, (backTo cp (starEach es (ksEnv qual (defScope st) L fI (.ref cda) cc))).any (·.1) = false)
    (hin : ∀ L cda cc, interactive (ksEnv qual (defScope st) L fI (.ref cda) cc) = false)
    (hsw : ∀ L cda cc, swapsWith (.Call (.Attribute (.Call (.Name "super" p0) [] [] p1) "__init__" ap) (e :: es) [] cp) none ep.line (ksEnv qual (defScope st) L fI (.ref cda) cc) = pure false)
    (hev : ∀ L cda cc, ∃ pl : Sem Bool, eval (.Call (.Attribute (.Call (.Name "super" p0) [] [] p1) "__init__" ap) (e :: es) [] cp) (ksEnv qual (defScope st) L fI (.ref cda) cc) = (do
      let ov ← attributeBase (.Call (.Name "super" p0) [] [] p1) "__init__" (ksEnv qual (defScope st) L fI (.ref cda) cc) (eval (.Call (.Name "super" p0) [] [] p1) (ksEnv qual (defScope st) L fI (.ref cda) cc))
      standAt ap.atName
      let (f, first) ← holding [ov] (getMethod ov "__init__" pl)
      callWith cp f first (backTo cp (starEach (e :: es) (ksEnv qual (defScope st) L fI (.ref cda) cc))) [])) :
    FnOk P w K mg base CX (k + 1) fI fd ps sp := by
  obtain ⟨oc, od, dV, kV, doc, pm, an, cda, cc, ct, osl, ccl, cdd, xs, ccs, file, tf, cl, cld, csl, rfl, lk, hcd, lcode, hxs, hfile, lcc⟩ := F.ex
  refine ⟨len, fun A outer s H args us vs Q E hr e0 hbind r hsp => ?_⟩
  have hl := len _ _ _ _ hsp
  have KX : K.In s.heap := e0.mod.kin.keeps fun b o e => (e0.bs b o e).1
  have lim : s.heap.NoLimit := e0.mod.nolimit.keeps fun b o e => (e0.bs b o e).1
  refine PySem.ks_codeAny_call_defAt (binds := ps.zip us) hr.depth (KX _ _ lk) rfl lim (PySem.W.codeRec_of KX hcd) rfl hbind S.cell (fun y hy => S.par _ (List.of_mem_zip hy).1) (fun h₁ hns hk => ?_) S.co S.gen S.kind
  obtain ⟨a, ta, t, hv0, ha, hPA, hPS, hq⟩ := hbody cda cc A outer s H vs Q E (hr.deeper _) hsp
  have I : Inv (cxS CX P w K mg base N qual (defScope st) fI cda cc A outer s H E) [] (L2.start N vs) H { s with heap := h₁, toks := s.toks + (ps.zip us).length } := inv_sup S hr.hd e0 hl r lcc hns hk
  have KX1 : K.In h₁ := KX.keeps hk
  obtain ⟨t0, hx⟩ := exo_at I.hok ha
  have hx : h₁.get? a = some (excO C t0) := hx
  obtain ⟨nm, q, Nn, bs, bm, sn, sub, ab, col, dd, k0, k1, k2, k3, k5, B, newId, initId, bmB, hC, Vb, hal⟩ := T.cls
  have hcl : PySem.W.clsIn K C = some { name := nm, bases := bs, mro := .ref C :: bm, ns := Nn, qualname := q, hasDict := true, slotNames := sn, subclasses := sub, abstract := ab, collection := col, hasDel := false } := by unfold PySem.W.clsIn; rw [hC] <;> rfl
  have hsub : PySem.W.mroIn K C (.ref C) = some true := by
    unfold PySem.W.mroIn
    rw [hcl, Option.bind_some, if_neg (show ¬ (List.isEmpty (Value.ref C :: bm) = true) from Bool.false_ne_true)]
    simp
  have inst : ∀ {g : Heap}, g.get? a = some (excO C t0) → PySem.W.InstAt g a (excO C t0) C none := fun {g} z => ⟨z, rfl, rfl, trivial⟩
  have hself : (ps.zip us).reverse.lookup ar.arg = some (.ref a) := by
    obtain ⟨u, hu, rv⟩ := r.get hv0
    obtain rfl : u = Value.ref a := rv
    have nd : ps.Nodup := by
      rw [← S.pre]
      exact S.nd.sublist (List.take_sublist _ _)
    exact rev_lookup nd hN hu
  have hparS : (defScope st).names.lookup ar.arg = some .local := S.par _ (List.mem_of_getElem? hN)
  obtain ⟨mb, hb1, hb2⟩ := e0.mod.blt
  obtain ⟨pl, hpe⟩ := hev s.heap.objs.size cda cc
  show PySem.wpAt (model P w) (cxS CX P w K mg base N qual (defScope st) fI cda cc A outer s H E).A (.func (defBody st) (ksEnv qual (defScope st) s.heap.objs.size fI (.ref cda) cc)) (execs (defBody st) (ksEnv qual (defScope st) s.heap.objs.size fI (.ref cda) cc))
    (fun f s' => CR CX outer P w H s Q E (.ok (.ret (match f with | .ret v => v | _ => .none))) s') (cxS CX P w K mg base N qual (defScope st) fI cda cc A outer s H E).xe _
  rw [hb]
  refine PySem.ks_wpAt_execs_cons (PySem.ks_wpAt_Expr_any ?_ (hin _ _ _) (hsw _ _ _))
  refine PySem.ks_wpAt_MethodCall (pl := pl) ?_ hpe
  refine PySem.ks_wpAt_super_base (env := ksEnv qual (defScope st) s.heap.objs.size fI (.ref cda) cc) S.sup S.cls (by decide +kernel) rfl (KX1 _ _ lk) rfl har rfl (KX1 _ _ lcode) rfl hxs hfile htop ?_
  refine PySem.W.ks_loadName_global S.kind S.sup (Calls.loadGlobal_builtin (e0.mod.glob.keeps fun b o z => hk b o (e0.bs b o z).1) hsu (hb1.keeps fun b o z => hk b o (e0.bs b o z).1) ((hb2 _ (by decide +kernel)).trans (by decide +kernel)) ⟨rfl, ?_⟩)
  refine PySem.wpAny_loadName_free S.kind S.cls rfl ⟨_, KX1 _ _ lcc, rfl⟩ ?_
  refine PySem.wpAny_loadName_local S.kind hparS hns hself ?_
  refine PySem.ks_wpAny_isType_cls (KX1 _ _ hC) rfl ⟨rfl, ?_⟩
  refine PySem.ks_wpAny_call_super (KX1 _ _ hC) rfl hx rfl (fun c z => by cases z) (PySem.W.looks_mroIn KX1 hsub) (fun h2 e2 k2 => ?_)
  -- the super object is pinned
  have I2 : Inv (cxS CX P w K mg base N qual (defScope st) fI cda cc A outer s H E) [(h₁.objs.size, PySem.W.ks_superObj C a C)] (L2.start N vs) H { s with heap := h2, toks := s.toks + (ps.zip us).length } :=
    ClX.pin_new (s := { s with heap := h₁, toks := s.toks + (ps.zip us).length }) I k2 (Nat.le_refl _) e2 (fun v z => by cases z)
  have X2 : K.In h2 := KX1.keeps k2
  have J2 := inst (k2 _ _ hx)
  refine PySem.W.kxs_getMethod T.inf.kxs e2 (PySem.W.looks_opaque X2 T.op) (l₀ := .ref C :: bm) (l := bm) (fun A Q E s k q => wpAny_bind ((PySem.W.looks_clsIn X2 hcl) A _ E s k (wpAny_pure q))) (PySem.ESX.drop_own C bm) X2 hal (J2.type.andThen (PySem.W.looks_subIn X2 T.sub)) (PySem.W.ks_ne X2 J2 hcl) (by decide +kernel) ?_
  have I3 := ClX.pin_new (t' := s.toks + (ps.zip us).length + 1) (h' := h2.push (kxs_mw i a)) (a := h2.objs.size) (o := kxs_mw i a) I2 (fun b u z => Heap.get?_push_of_some _ z) (Nat.le_refl _) (Heap.get?_push_at rfl rfl) (fun v z => by cases z)
  show wpAny _ _ (callWith cp (.ref h2.objs.size) [] (backTo cp (starEach (e :: es) _)) []) _ _ _
  rw [he]
  refine PySem.W.kxs_callWith (i := i) (x := a) (by show (false || (backTo cp (starEach es _)).any (·.1)) = false; rw [hpl]; rfl) (Calls.evalArgs_plain ?_)
  have hrun := hPA.run cp _ _ _ _ _ I3 hq
  rw [show starEach (e :: es) (cxS CX P w K mg base N qual (defScope st) fI cda cc A outer s H E).env = _ from he _ _ _] at hrun
  refine thn hrun fun ws' s3 ⟨ws, H3, I4, r3, hz, hx3, q3⟩ => ⟨ClX.pin_at I4, ?_⟩
  obtain ⟨t3, hx4⟩ := exo_at I4.hok hx3
  have hm := ClX.pin_at I4
  obtain ⟨hp3, g3, d3, tk3, os3⟩ := s3
  refine own_super T.inf (I4.kIn _ _ hC) hx4 hm (by show ws'.length ≤ sizeLine; rw [← Paired.length r3, sizeLine_eq]; omega) (fun h4 t4 k4 e4 => ?_)
  have I5 := I4.write (t' := tk3) (x := a) (e := a) (o := exo a C none) (by rw [hx3]; exact True.intro) (.inl rfl) k4 ⟨_, e4⟩ (exo_ok e4)
  have eu : upd H3 a (exo a C none) = H3 := by
    funext b
    by_cases hb : b = a
    · rw [hb, upd_same, hx3]
    · rw [upd_ne hb]
  rw [eu] at I5
  have fin : ∀ {s' : Shared} {σ' : L2.St} {H' : Hp} {v : V} {u : Value}, Inv (cxS CX P w K mg base N qual (defScope st) fI cda cc A outer s H E) [] σ' H' s' → RelV v u → Q v H' → L2.CE outer P w H s Q u s' :=
    fun {s' σ' H' v u} J rv q => ⟨v, H', J.os, J.bare, J.base, J.hok, rv, q⟩
  refine PySem.wpAt_of_wpAny (thn (hPS.run [] _ _ _ _ (ClX.unpin (ClX.unpin I5)) q3) (fun fl s' hs => ?_))
  match fl, hs with
  | .ret u, ⟨v, τ, G2, J, rv, q⟩ => exact fin J rv q
  | .next, ⟨τ, G2, J, q⟩ => exact fin (u := Value.none) (v := V.non) J rfl q
  | .brk, ⟨_, _, _, q⟩ => exact q.elim
  | .cont, ⟨_, _, _, q⟩ => exact q.elim
end
/-- C(e, ..), by C's own __init__ (sp) -/
theorem pmk_own {X : Cx} {CX : CXT} {x : Str} {C fI : Addr} {k : Nat} {fd : FuncData} {ps : List Str} {sp : Sp} {Bi i : String} {e : Expr} {es : List Expr} {ta : TA} {p pos : Pos} (T : OwC X.K C Bi i) (iC : PySem.W.findIn X.K (.ref C) "__init__" = some (some (.ref fI))) (tI : PySem.W.typeIn X.K (.ref fI) = some (.type "function"))
    (G : FnOk X.prog X.w X.K X.mg X.base CX k fI fd ps sp) (hr : Room (k + 1) X.A) (hb : Binds X.K fd ps []) (hx : Passes CX X (fun _ _ _ => False)) (hg : Gl X x) (hm : X.mg x = some (.ref C)) (ha : PA X (e :: es) ta)
    (hdb : (x == ("__debug__" : Str)) = false := by decide) (he : starEach (e :: es) X.env = (false, eval e X.env) :: starEach es X.env := by rfl) (hpl : (backTo pos (starEach es X.env)).any (·.1) = false := by rfl) :
    PMk X (.Call (.Name x p) (e :: es) [] pos) (tMkO C sp [] ta) := by
  intro pins s σ H Q I h
  obtain ⟨nm, q, N, bs, bm, sn, sub, ab, col, dd, k0, k1, k2, k3, k5, B, newId, initId, bmB, hC, Vb, _⟩ := T.cls
  refine wpAny_Call_Name_kw (ld_glob I hg hm ?_ hdb)
  refine PySem.W.callWith_K (h₀ := X.base) I.ok.mod.kin T.kC (thn (ha.run pos pins s σ H _ I h) fun us s1 ⟨vs, H1, I1, r1, hz, q1⟩ => ⟨I1.kIn, ?_⟩) he hpl
  show wpAny _ _ (call (.ref C) us) _ _ _
  obtain ⟨hp, g, dr, tk, os⟩ := s1
  have up : ∀ b o, hp.get? b = some o → ((hp.push (PySem.W.kdv_tup us)).push (excO C hp.objs.size)).get? b = some o := fun b o z => Heap.get?_push_of_some _ (Heap.get?_push_of_some _ z)
  have gx : ((hp.push (PySem.W.kdv_tup us)).push (excO C hp.objs.size)).get? (hp.objs.size + 1) = some (excO C hp.objs.size) := by heap_get
  have sz : hp.objs.size ≤ hp.objs.size + 1 := Nat.le_succ _
  have fr : H1 (hp.objs.size + 1) = none := I1.hok.fresh sz
  have hq := q1 (hp.objs.size + 1) fr
  have I2 : Inv X pins σ (upd H1 (hp.objs.size + 1) (exo (hp.objs.size + 1) C none)) ⟨(hp.push (PySem.W.kdv_tup us)).push (excO C hp.objs.size), g, dr, tk, os⟩ := I1.laid (t' := tk) up sz (exo_ok gx)
  have r2 : Vals (V.ref (hp.objs.size + 1) :: (vs ++ [])) (Value.ref (hp.objs.size + 1) :: us) := by
    rw [List.append_nil]
    exact .cons rfl r1
  have hl : (Value.ref (hp.objs.size + 1) :: us ++ []).length = ps.length := by
    rw [List.append_nil, ← r2.length]
    exact G.len _ _ _ _ hq
  have hus : us.length ≤ sizeLine := by
    rw [← Paired.length r1, sizeLine_eq]
    omega
  have bd := hb ⟨(hp.push (PySem.W.kdv_tup us)).push (excO C hp.objs.size), g, dr, tk, os⟩ (Value.ref (hp.objs.size + 1) :: us) I2.kIn hl
  rw [List.append_nil] at bd
  refine wpAny_call (own_call Vb (I1.kIn _ _ hC) hus (PySem.W.looks_findIn I1.kIn iC) (fun self => PySem.W.bind_fn I1.kIn self tI)
    (codeAny_mono (G.run _ X.stack _ _ ⟨Value.ref (hp.objs.size + 1) :: us, []⟩ (Value.ref (hp.objs.size + 1) :: us) _ _ (fun _ _ _ => False) (hr.make C us []) (I2.env0.make C us []) bd r2 hq) fun r s' hq' => ?_))
  match r, hq' with
  | .error er, hq' => exact hx pins σ _ _ er s' I2 hq'
  | .ok .next, hq' => exact hq'.elim
  | .ok .brk, hq' => exact hq'.elim
  | .ok .cont, hq' => exact hq'.elim
  | .ok (.ret u), hq' =>
      obtain ⟨v, H2, os2, bare2, un2, hok2, rv, ev, dd2, fs, ea, ed, hd1, q2⟩ := hq'
      subst ev
      obtain ⟨hh2, gg2, dr2, tt2, oss⟩ := s'
      exact ⟨rv, mk_end (raises_own T.exC T.tyC) I1 sz up un2 hok2 os2 bare2 ea ed hd1 q2⟩
end Ly
end
section
set_option Elab.async false
set_option linter.all false
set_option maxRecDepth 100000
namespace Ly
open PySem PySem.Spec PyProof.Rows L2
/-- the values that the exceptions here carry -/
inductive PlainV : V → Prop where
  | int (n : Nat) (h : n ≤ 1000) : PlainV (.int (Int.ofNat n))
  | str (z : Str) (h : z.length ≤ 100000) : PlainV (.str z)
structure Er (mg : Str → Option Value) : Prop where
  shown : ∃ t, mg "_SHOWN" = some (.int 60 t)
  great : ∃ t, mg "_GREAT" = some (.int 1000000000 t)
  dict : mg "dict" = none
  sup : mg "super" = none
section
variable {X : Cx} {x : Str} {pos p : Pos} {e : Expr} {es : List Expr} {ta : TA} {te : TE}
theorem pIsiX (hm : X.mg "isinstance" = none) (ha : PA X (e :: es) ta) (hg : Gl X "isinstance" := by rfl)
    (he : starEach (e :: es) X.env = (false, eval e X.env) :: starEach es X.env := by rfl) (hpl : (backTo pos (starEach es X.env)).any (·.1) = false := by rfl) : PE X (.Call (.Name "isinstance" p) (e :: es) [] pos) (tCB (rIsi X.K) ta) :=
  pe_callB call_isi hg hm PyProof.Rows.boot_isinstance ha (by decide) (by decide) he hpl
theorem pTy {T : String} (hm : X.mg x = none) (hb : bootBuiltins x = some (.type T)) (hg : Gl X x := by rfl) (hn : x ≠ "__name__" := by decide) (hd : (x == ("__debug__" : Str)) = false := by decide) : PE X (.Name x pos) (tC (.ty T)) := pe_bltn hg hm hb rfl hn hd
end
theorem num_len : ∀ n : Fin 1001, (Str.ofString (toString (Int.ofNat n.1))).length ≤ 8 := by decide +kernel
section
variable {P : Program} {w : World} {K : PySem.W.Frag} {mg : Str → Option Value} {base : Heap}
def spShown : Sp := fun vs H Q _ => ∃ x : V, vs = [x] ∧ PlainV x ∧ ∀ z : Str, z.length ≤ 100000 → Q (.str z) H
theorem sc_shown : FnScope ["value"] ["value"] (defScope t_shown) := ⟨rfl, rfl, rfl, by decide +kernel, rfl, by decide +kernel, by decide +kernel⟩
theorem ok_shown {f : Addr} {fd : FuncData} (F : Fun K "_shown" "_shown" t_shown f fd) (B : Bt mg) (R : Er mg) : FnOk P w K mg base CX0 1 f fd ["value"] spShown := by
  refine F.ok sc_shown (fun vs H Q E h => ?_) (fun cdv A outer s H vs Q E hr h => ?_)
  · obtain ⟨x, rfl, _⟩ := h
    rfl
  · obtain ⟨x, rfl, hx, k⟩ := h
    obtain ⟨t1, h1⟩ := R.shown
    obtain ⟨t2, h2⟩ := R.great
    refine ⟨_, pss_cons (ps_if (pt_val (pIsiX B.isi (pa_cons (pv 0) (pa_cons (pTy B.str PyProof.Rows.boot_str) pa_nil)))) (pss_one (ps_ret (pe_slice sl_str (pv 0) po_none (po_some (pgI h1))))) pss_nil)
      (pss_cons (ps_if (PW.pt (pw_and (pt_val (pIsiX B.isi (pa_cons (pv 0) (pa_cons (pTy (T := "int") B.int (by decide +kernel)) pa_nil)))) (pw_and1 (pt_chain op_lt op_lt (pe_un un_neg (pgI h2)) (pv 0) (pgI h2)))))
        (pss_one (ps_ret (pe_callTy call_str_int (by rfl) B.str PyProof.Rows.boot_str (pa_cons (pv 0) pa_nil)))) pss_nil)
      (pss_one (ps_ret pe_str))), ?_⟩
    cases hx with
    | str z hz =>
      refine ⟨_, rfl, _, _, _, _, true, rfl, .ty _, .base (.str z), rfl, _, rfl, iteT' rfl ?_⟩
      refine ⟨_, rfl, _, rfl, z, rfl, Nat.le_trans hz (by decide), k _ (Nat.le_trans (cutS_length _ _ _) hz)⟩
    | int n hn =>
      refine ⟨_, rfl, _, _, _, _, false, rfl, .ty _, .base (.int _), rfl, _, rfl, iteF' rfl ?_⟩
      refine ⟨_, rfl, _, _, _, _, true, rfl, .ty _, .base (.int _), rfl, _, rfl, iteT' rfl ?_⟩
      have hn' : (Int.ofNat n) = (n : Int) := rfl
      have a1 : decide ((-1000000000 : Int) < Int.ofNat n) = true := decide_eq_true (by rw [hn']; omega)
      have a2 : decide (Int.ofNat n < (1000000000 : Int)) = true := decide_eq_true (by rw [hn']; omega)
      refine ⟨_, rfl, _, rfl, _, _, rfl, rfl, _, rfl, ?_⟩
      refine iteT' a1 ?_
      refine ⟨Int.ofNat n, 1000000000, rfl, rfl, true, congrArg V.bl a2, iteT ?_⟩
      have z : (Str.ofString (toString (Int.ofNat n))).length ≤ 100000 := Nat.le_trans (num_len ⟨n, Nat.lt_succ_of_le hn⟩) (by decide)
      refine ⟨_, rfl, Int.ofNat n, rfl, ?_, k _ z⟩
      have : n.log2 ≤ n := Nat.log2_le_self n
      show (Int.natAbs (n : Int)).log2 < 1920
      rw [Int.natAbs_natCast]
      omega
theorem pss_dead {X : Cx} {l : List Stmt} : PSs X l (fun _ _ _ => False) := ⟨fun _ _ _ _ _ _ h => h.elim⟩
/-- copy_of of a plain value, at the full depth -/
def spCopy : Sp := fun vs H Q _ => ∃ x : V, vs = [x, .int 12] ∧ PlainV x ∧ Q x H
theorem sc_copy : FnScope ["value", "depth"] ["value", "depth"] (defScope t_copy_of) := ⟨rfl, rfl, rfl, by decide +kernel, rfl, by decide +kernel, by decide +kernel⟩
theorem ok_copy {f : Addr} {fd : FuncData} (F : FunD K "copy_of" "copy_of" (defArgs t_copy_of) (defBody t_copy_of) (defScope t_copy_of) [.int 12] [] f fd) (B : Bt mg) (R : Er mg) : FnOk P w K mg base CX0 1 f fd ["value", "depth"] spCopy := by
  refine F.ok sc_copy (fun vs H Q E h => ?_) (fun cdv A outer s H vs Q E hr h => ?_)
  · obtain ⟨x, rfl, _⟩ := h
    rfl
  · obtain ⟨x, rfl, hx, k⟩ := h
    refine ⟨_, pss_cons (ps_if (pt_cmpR op_eq (pv 1) pe_int (by rfl)) pss_dead pss_nil)
      (pss_cons (ps_if (pt_val (pIsiX B.isi (pa_cons (pv 0) (pa_cons (pTy (T := "list") B.list (by decide +kernel)) pa_nil)))) pss_dead pss_nil)
      (pss_cons (ps_if (pt_val (pIsiX B.isi (pa_cons (pv 0) (pa_cons (pTy (T := "dict") R.dict (by decide +kernel)) pa_nil)))) pss_dead pss_nil)
      (pss_cons (ps_if (pt_val (pIsiX B.isi (pa_cons (pv 0) (pa_cons (pTy (T := "tuple") B.tuple (by decide +kernel)) pa_nil)))) pss_dead pss_nil)
      (pss_one (ps_ret (pv 0)))))), ?_⟩
    obtain ⟨t, h1, h2, h3, h4⟩ : ∃ t, TyX K H x t ∧ PySem.W.kitOne K t (.type "list") = some false ∧ PySem.W.kitOne K t (.type "dict") = some false ∧ PySem.W.kitOne K t (.type "tuple") = some false := by
      cases hx with
      | str z hz => exact ⟨_, .base (.str z), by kernel_rfl, by kernel_rfl, by kernel_rfl⟩
      | int n hn => exact ⟨_, .base (.int _), by kernel_rfl, by kernel_rfl, by kernel_rfl⟩
    refine ⟨_, rfl, rfl, _, rfl, iteF' (by decide) ?_⟩
    refine ⟨_, rfl, _, _, t, _, false, rfl, .ty _, h1, h2, _, rfl, iteF' rfl ?_⟩
    refine ⟨_, rfl, _, _, t, _, false, rfl, .ty _, h1, h3, _, rfl, iteF' rfl ?_⟩
    refine ⟨_, rfl, _, _, t, _, false, rfl, .ty _, h1, h4, _, rfl, iteF' rfl ?_⟩
    exact ⟨_, rfl, k⟩
end
end Ly
end
section
set_option Elab.async false
set_option linter.all false
set_option maxRecDepth 100000
namespace Ly
open PySem PySem.Spec PyProof.Rows L2
open PySem.W (ksEnv ksFn)
/-- C.__init__(self, x): the field f holds x -/
def spExc (C : Addr) (f : Str) : Sp := fun vs H Q _ => ∃ (a : Addr) (x : V), vs = [.ref a, x] ∧ PlainV x ∧ H a = some (exo a C none) ∧ ∀ d, H d = none → d ≠ a → Q .non (upd (upd H d (exd d [(f, x)])) a (exo a C (some d)))
theorem exc_made {C : Addr} {f : Str} {x : V} {H1 : Hp} {Q : XK} (hx : PlainV x) (k : ∀ d H', Same H1 H' → H1 d = none → H' d = some (.xd [(f, x)]) → Q (.ref C) (some d) H') : ∀ a, H1 a = none → spExc C f (.ref a :: ([x] ++ [])) (upd H1 a (exo a C none))
    (fun v H2 => v = .non ∧ ∃ (d : Addr) (fs : List (Str × V)), H2 a = some (exo a C (some d)) ∧ H2 d = some (exd d fs) ∧ H1 d = none ∧ Q (.ref C) (some d) (upd (del H2 a) d (.xd fs))) (fun _ _ _ => False) := fun a na => by
  refine ⟨a, x, rfl, hx, upd_same, fun d nd ne => ⟨rfl, d, _, upd_same, by rw [upd_ne ne]; exact upd_same, by rw [upd_ne ne] at nd; exact nd, k d _ (fun b o e => ?_) (by rw [upd_ne ne] at nd; exact nd) upd_same⟩⟩
  rw [upd_ne ne] at nd
  rw [upd_ne (ne_of_none e nd), del_ne (ne_of_none e na), upd_ne (ne_of_none e na), upd_ne (ne_of_none e nd), upd_ne (ne_of_none e na)]
  exact e
/-- the two helpers of errors' __init__ -/
structure Hx (P : Program) (w : World) (K : PySem.W.Frag) (mg : Str → Option Value) (base : Heap) (fs fc : Addr) (ds dc : FuncData) (vs : List Value) : Prop where
  GS : FnOk P w K mg base CX0 1 fs ds ["value"] spShown
  aS : mg "_shown" = some (.ref fs)
  kS : PySem.W.keepIn K (.ref fs) = true
  bS : Binds K ds ["value"] []
  GC : FnOk P w K mg base CX0 1 fc dc ["value", "depth"] spCopy
  aC : mg "copy_of" = some (.ref fc)
  kC : PySem.W.keepIn K (.ref fc) = true
  bC : Binds K dc ["value", "depth"] vs
  vC : Vals [.int 12] vs
section
variable {P : Program} {w : World} {K : PySem.W.Frag} {mg : Str → Option Value} {base : Heap} {fs fc : Addr} {ds dc : FuncData} {dvs : List Value}
theorem ok_BadRow {C fI : Addr} {fd : FuncData} (F : SupF P K C fI "BadRow.__init__" t_BadRow_init fd) (T : OwC K C "ValueError" "ValueError.__init__") (R : Er mg) (Z : Hx P w K mg base fs fc ds dc dvs) (no : PySem.W.findIn K (.ref C) "at" = some none)
    (htop : (P.main.scope.names.lookup ("super" : Str)).isSome = false) : FnOk P w K mg base CX0 2 fI fd ["self", "at"] (spExc C "at") := by
  have S : SupScope ["self", "at"] ["self", "at"] (defScope t_BadRow_init) := supScope_by (by decide +kernel)
  refine fn_super (k := 1) F S T (by rfl) (by rfl) (by rfl) R.sup htop (fun vs H Q E h => ?_) (fun cda cc A outer s H vs Q E hr h => ?_) (fun _ _ _ => by rfl) (fun _ _ _ => by rfl) (fun _ _ _ => by rfl) (fun _ _ _ => by rfl) (fun _ _ _ => ⟨_, by rfl⟩)
  · obtain ⟨a, x, rfl, _⟩ := h
    rfl
  · obtain ⟨a, x, rfl, hx, ha, k⟩ := h
    refine ⟨a, _, _, rfl, ha, pa_cons (pe_joined (.cons pe_str (.cons (pe_fmt (pe_call Z.GS hr rfl Z.aS Z.kS Z.bS .nil pass0 (pa_cons (pv 1) pa_nil))) .nil))) pa_nil,
      pss_one (ps_own (pv 0) (pe_call Z.GC hr rfl Z.aC Z.kC Z.bC Z.vC pass0 (pa_cons (pv 1) pa_nil))), ?_⟩
    refine ⟨_, rfl, by decide +kernel, _, rfl, x, rfl, hx, fun z hz => .inl ⟨z, rfl, Nat.le_trans hz (by decide), z, rfl, ?_, by show 1 ≤ 1000; decide, ha, _, rfl, x, rfl, hx, _, rfl, a, C, _, _, rfl, T, no, ha, fun dx n ne => k dx n ne⟩⟩
    have e : (Str.empty ++ "no row that may stand there: " : Str).length ≤ 100 := by decide +kernel
    have : ((Str.empty ++ "no row that may stand there: " : Str) ++ z).length = (Str.empty ++ "no row that may stand there: " : Str).length + z.length := Str.length_append _ _
    rw [this, sizeLine_eq]
    omega
theorem ok_TooMany {C fI : Addr} {fd : FuncData} (F : SupF P K C fI "TooMany.__init__" t_TooMany_init fd) (T : OwC K C "ValueError" "ValueError.__init__") (R : Er mg) (Z : Hx P w K mg base fs fc ds dc dvs) (no : PySem.W.findIn K (.ref C) "word" = some none)
    (htop : (P.main.scope.names.lookup ("super" : Str)).isSome = false) : FnOk P w K mg base CX0 2 fI fd ["self", "word"] (spExc C "word") := by
  have S : SupScope ["self", "word"] ["self", "word"] (defScope t_TooMany_init) := supScope_by (by decide +kernel)
  refine fn_super (k := 1) F S T (by rfl) (by rfl) (by rfl) R.sup htop (fun vs H Q E h => ?_) (fun cda cc A outer s H vs Q E hr h => ?_) (fun _ _ _ => by rfl) (fun _ _ _ => by rfl) (fun _ _ _ => by rfl) (fun _ _ _ => by rfl) (fun _ _ _ => ⟨_, by rfl⟩)
  · obtain ⟨a, x, rfl, _⟩ := h
    rfl
  · obtain ⟨a, x, rfl, hx, ha, k⟩ := h
    refine ⟨a, _, _, rfl, ha, pa_cons (pe_joined (.cons pe_str (.cons (pe_fmt (pe_call Z.GS hr rfl Z.aS Z.kS Z.bS .nil pass0 (pa_cons (pv 1) pa_nil))) .nil))) pa_nil,
      pss_one (ps_own (pv 0) (pe_call Z.GC hr rfl Z.aC Z.kC Z.bC Z.vC pass0 (pa_cons (pv 1) pa_nil))), ?_⟩
    refine ⟨_, rfl, by decide +kernel, _, rfl, x, rfl, hx, fun z hz => .inl ⟨z, rfl, Nat.le_trans hz (by decide), z, rfl, ?_, by show 1 ≤ 1000; decide, ha, _, rfl, x, rfl, hx, _, rfl, a, C, _, _, rfl, T, no, ha, fun dx n ne => k dx n ne⟩⟩
    have e : (Str.empty ++ "too many: " : Str).length ≤ 100 := by decide +kernel
    have : ((Str.empty ++ "too many: " : Str) ++ z).length = (Str.empty ++ "too many: " : Str).length + z.length := Str.length_append _ _
    rw [this, sizeLine_eq]
    omega
theorem ok_Unknown {C fI : Addr} {fd : FuncData} (F : SupF P K C fI "Unknown.__init__" t_Unknown_init fd) (T : OwC K C "KeyError" "KeyError.__init__") (R : Er mg) (Z : Hx P w K mg base fs fc ds dc dvs) (no : PySem.W.findIn K (.ref C) "name" = some none)
    (htop : (P.main.scope.names.lookup ("super" : Str)).isSome = false) : FnOk P w K mg base CX0 2 fI fd ["self", "name"] (spExc C "name") := by
  have S : SupScope ["self", "name"] ["self", "name"] (defScope t_Unknown_init) := supScope_by (by decide +kernel)
  refine fn_super (k := 1) F S T (by rfl) (by rfl) (by rfl) R.sup htop (fun vs H Q E h => ?_) (fun cda cc A outer s H vs Q E hr h => ?_) (fun _ _ _ => by rfl) (fun _ _ _ => by rfl) (fun _ _ _ => by rfl) (fun _ _ _ => by rfl) (fun _ _ _ => ⟨_, by rfl⟩)
  · obtain ⟨a, x, rfl, _⟩ := h
    rfl
  · obtain ⟨a, x, rfl, hx, ha, k⟩ := h
    refine ⟨a, _, _, rfl, ha, pa_cons (pe_joined (.cons pe_str (.cons (pe_fmt (pe_call Z.GS hr rfl Z.aS Z.kS Z.bS .nil pass0 (pa_cons (pv 1) pa_nil))) .nil))) pa_nil,
      pss_one (ps_own (pv 0) (pe_call Z.GC hr rfl Z.aC Z.kC Z.bC Z.vC pass0 (pa_cons (pv 1) pa_nil))), ?_⟩
    refine ⟨_, rfl, by decide +kernel, _, rfl, x, rfl, hx, fun z hz => .inl ⟨z, rfl, Nat.le_trans hz (by decide), z, rfl, ?_, by show 1 ≤ 1000; decide, ha, _, rfl, x, rfl, hx, _, rfl, a, C, _, _, rfl, T, no, ha, fun dx n ne => k dx n ne⟩⟩
    have e : (Str.empty ++ "unknown: " : Str).length ≤ 100 := by decide +kernel
    have : ((Str.empty ++ "unknown: " : Str) ++ z).length = (Str.empty ++ "unknown: " : Str).length + z.length := Str.length_append _ _
    rw [this, sizeLine_eq]
    omega
end
end Ly
end
section
set_option Elab.async false
set_option linter.all false
set_option maxRecDepth 100000
/-! read_rows and what it asks. -/
namespace Ly
open PySem PySem.Spec PyProof.Rows L2
def namesM (st : RS) : Option Str := (("main" : Str) :: st.begun).find? fun z => !hasN st.jobs z
def limitsM (st : RS) (n : Nat) : Option Str := if 100 < n then some "rows" else if 6 < st.jobs.length then some "jobs" else if 6 < st.walks.length then some "walks" else if 6 < st.deepest then some "deep" else none
/-- an own exception class as the raising defs see it -/
structure Exq (P : Program) (w : World) (K : PySem.W.Frag) (mg : Str → Option Value) (base : Heap) (x f : Str) (C fI : Addr) (fd : FuncData) (Bi i : String) : Prop where
  T : OwC K C Bi i
  iC : PySem.W.findIn K (.ref C) "__init__" = some (some (.ref fI))
  tI : PySem.W.typeIn K (.ref fI) = some (.type "function")
  G : FnOk P w K mg base CX0 2 fI fd ["self", f] (spExc C f)
  b : Binds K fd ["self", f] []
  g : mg x = some (.ref C)
/-- what an exception of the class C with the field f = x leaves -/
def Out (C : Addr) (f : Str) (x : V) (H : Hp) (E : XK) : Prop := ∀ d H', Same H H' → H d = none → H' d = some (.xd [(f, x)]) → E (.ref C) (some d) H'
section
variable {X : Cx} {x f : Str} {C fI : Addr} {fd : FuncData} {Bi i : String} {e : Expr} {te : TE} {W : WX} {p pos pos2 : Pos}
/-- raise C(e) -/
def Thrown (C : Addr) (f : Str) (v : V) (H1 : Hp) (Q : XK) : Prop := [v].length ≤ 1000 ∧ ∀ a, H1 a = none → spExc C f (.ref a :: ([v] ++ [])) (upd H1 a (exo a C none))
    (fun u H2 => u = .non ∧ ∃ (d : Addr) (fs : List (Str × V)), H2 a = some (exo a C (some d)) ∧ H2 d = some (exd d fs) ∧ H1 d = none ∧ Q (.ref C) (some d) (upd (del H2 a) d (.xd fs))) (fun _ _ _ => False)
theorem thrown_of {v : V} {H1 : Hp} {Q : XK} (hv : PlainV v) (k : Out C f v H1 Q) : Thrown C f v H1 Q := ⟨by show 1 ≤ 1000; decide, exc_made hv k⟩
def tThrow (C : Addr) (f : Str) (te : TE) (W : WX) : TS := fun _ σ H => te σ H fun v H1 => Thrown C f v H1 fun c d H' => W c d σ H'
theorem ps_throw (hc : X.calm = true) (tk : Takes X W) (Z : Exq X.prog X.w X.K X.mg X.base x f C fI fd Bi i) (hr : Room 3 X.A) (he : PE X e te) (hg : Gl X x := by rfl) (hdb : (x == ("__debug__" : Str)) = false := by decide)
    (hst : starEach [e] X.env = (false, eval e X.env) :: starEach [] X.env := by rfl) : PS X (.Raise (some (.Call (.Name x p) [e] [] pos)) none pos2) (tThrow C f te W) :=
  ps_raise (pos := pos2) hc tk (pmk_own (p := p) (pos := pos) Z.T Z.iC Z.tI Z.G hr Z.b pass0 hg Z.g (pa_cons he pa_nil hst) hdb hst)
end
section
variable {P : Program} {w : World} {K : PySem.W.Frag} {mg : Str → Option Value} {base : Heap} {CR CS : Addr}
/-! ### _check_names -/
def spNames (CR CS CU : Addr) : Sp := fun vs H Q E => ∃ (H0 : Hp) (L : Lay) (st : RS) (T : Nat), vs = [.ref L.r] ∧ RR CR CS H0 H L st T ∧ (∀ z ∈ st.begun, z.length ≤ 100000) ∧
  (match namesM st with | none => ∀ H', Same H H' → Q .non H' | some z => ∀ H', Same H H' → Out CU "name" (.str z) H' E)
theorem sc_names : FnScope ["reader", "name"] ["reader"] (defScope t_check_names) := ⟨rfl, rfl, rfl, by decide +kernel, rfl, by decide +kernel, by decide +kernel⟩
theorem ok_names {f CU fU : Addr} {fd dU : FuncData} {Bi i : String} (F : Fun K "_check_names" "_check_names" t_check_names f fd) (R : RdC K mg CR) (Z : Exq P w K mg base "Unknown" "name" CU fU dU Bi i) :
    FnOk P w K mg base (L2.CX P w) 4 f fd ["reader"] (spNames CR CS CU) := by
  refine F.okX sc_names (fun vs H Q E h => ?_) (fun cdv A outer s H vs Q E hr h => ?_)
  · obtain ⟨H0, L, st, T, rfl, _⟩ := h
    rfl
  · obtain ⟨H0, L, st, T, rfl, RR0, hb, k⟩ := h
    have nod := sc_names.nd
    have hu := hu_of hr
    refine ⟨_, pss_one (ps_for (passes_of rfl) rfl (pi_list (pe_op op_cat (pe_lst (pa_cons pe_str pa_nil)) (pe_fld (pv 0) rfl))) (pg_name (i := 1) nod rfl (Or.inl rfl))
      (pss_one (ps_if (pt_cmp (pc_dnotin hu (pv 1) (pe_fld (pv 0) rfl))) (pss_one (ps_throw (W := fun c d _ H => E c d H) rfl (takes_of rfl rfl rfl rfl) Z hr (pv 1))) pss_nil))), ?_⟩
    obtain ⟨dx, hob⟩ := RR0.ob
    refine ⟨by show 1 ≤ sizeLine; decide, fun p hp => ?_⟩
    have s1 := same_new (o := .lst [.str "main"]) hp
    have hcu := RR0.lst .u trivial
    refine ⟨_, rfl, L.r, CR, dx, _, _, rfl, s1 _ _ hob, R.cl, R.be, rfl, ?_⟩
    have hsz : st.begun.length ≤ 100000 := by
      have h1 := RR0.szL .u trivial
      have h2 : (st.begun.map V.str).length ≤ T := h1
      rw [List.length_map] at h2
      exact Nat.le_trans h2 RR0.szT
    refine ⟨p, L.la .u, _, _, rfl, rfl, upd_same, s1 _ _ hcu, by show 1 + (st.begun.map V.str).length ≤ sizeLine; rw [List.length_map, sizeLine_eq]; omega, fun p2 hp2 => ?_⟩
    have s2 := s1.trans (same_new (o := .lst ([.str "main"] ++ cont st L .u)) hp2)
    have hl : upd (upd H p (.lst [.str "main"])) p2 (.lst ([.str "main"] ++ cont st L .u)) p2 = some (.lst ((("main" : Str) :: st.begun).map V.str)) := upd_same
    generalize upd (upd H p (.lst [.str "main"])) p2 (.lst ([.str "main"] ++ cont st L .u)) = H2 at s2 hl
    refine ⟨p2, rfl, ⟨_, SqL.of hl⟩, for_list (K := K) (a := p2) (xs := (("main" : Str) :: st.begun).map V.str) (fun i σ H' => ∃ v : Option V, σ = [some (.ref L.r), v] ∧ Same H2 H' ∧ ((("main" : Str) :: st.begun).drop i).find? (fun z => !hasN st.jobs z) = namesM st)
      ⟨none, rfl, Same.refl _, rfl⟩ (fun i σ H' _ ⟨_, _, q, _⟩ => SqL.of (q _ _ hl)) ?_ ?_⟩
    · rintro i y σ H' hi ⟨v, rfl, q, hf⟩
      obtain ⟨z, hz, rfl⟩ : ∃ z, (("main" : Str) :: st.begun)[i]? = some z ∧ y = V.str z := by
        rw [List.getElem?_map] at hi
        cases e : (("main" : Str) :: st.begun)[i]? with
        | none => rw [e] at hi; cases hi
        | some z => rw [e] at hi; exact ⟨z, rfl, (Option.some.inj hi).symm⟩
      obtain ⟨hlt, hg⟩ := List.getElem?_eq_some_iff.mp hz
      rw [List.drop_eq_getElem_cons hlt, hg, List.find?_cons] at hf
      refine nx_of ?_
      have R2 := RR0.same (s2.trans q)
      obtain ⟨dy, hob2⟩ := R2.ob
      refine ⟨_, rfl, _, rfl, L.r, CR, dy, _, _, rfl, hob2, R.cl, R.j, rfl, L.jd, _, rfl, dget_str R2.jobs _, _, rfl, ?_⟩
      rw [kvs_has]
      cases c : hasN st.jobs z with
      | false =>
        rw [c] at hf
        rw [← hf] at k
        refine iteT ⟨_, rfl, thrown_of (.str z ?_) (k H' (s2.trans q))⟩
        rcases List.mem_cons.mp (List.mem_of_getElem? hz) with e | e
        · rw [e]; decide
        · exact hb z e
      | true =>
        rw [c] at hf
        exact iteF ⟨_, rfl, q, hf⟩
    · rintro σ H' ⟨v, rfl, q, hf⟩
      rw [List.length_map, List.drop_length, List.find?_nil] at hf
      rw [← hf] at k
      exact k H' (s2.trans q)
/-! ### _check_limits -/
structure Lm (mg : Str → Option Value) : Prop where
  rows : ∃ t, mg "_MOST_ROWS" = some (.int 100 t)
  jobs : ∃ t, mg "_MOST_JOBS" = some (.int 6 t)
  walks : ∃ t, mg "_MOST_WALKS" = some (.int 6 t)
  deep : ∃ t, mg "_MOST_DEEP" = some (.int 6 t)
def spLimits (CR CS CT : Addr) : Sp := fun vs H Q E => ∃ (H0 : Hp) (L : Lay) (st : RS) (T n : Nat), vs = [.ref L.r, .int (n : Int)] ∧ RR CR CS H0 H L st T ∧ (match limitsM st n with | none => Q .non H | some z => Out CT "word" (.str z) H E)
theorem sc_limits : FnScope ["reader", "rows"] ["reader", "rows"] (defScope t_check_limits) := ⟨rfl, rfl, rfl, by decide +kernel, rfl, by decide +kernel, by decide +kernel⟩
theorem ok_limits {f CT fT : Addr} {fd dT : FuncData} {Bi i : String} (F : Fun K "_check_limits" "_check_limits" t_check_limits f fd) (B : Bt mg) (R : RdC K mg CR) (M : Lm mg) (Z : Exq P w K mg base "TooMany" "word" CT fT dT Bi i) :
    FnOk P w K mg base (L2.CX P w) 4 f fd ["reader", "rows"] (spLimits CR CS CT) := by
  refine F.okX sc_limits (fun vs H Q E h => ?_) (fun cdv A outer s H vs Q E hr h => ?_)
  · obtain ⟨H0, L, st, T, n, rfl, _⟩ := h
    rfl
  · obtain ⟨H0, L, st, T, n, rfl, RR0, k⟩ := h
    obtain ⟨_, m1⟩ := M.rows
    obtain ⟨_, m2⟩ := M.jobs
    obtain ⟨_, m3⟩ := M.walks
    obtain ⟨_, m4⟩ := M.deep
    refine ⟨_, pss_cons (ps_if (pt_cmpR op_gt (pv 1) (pgI m1) (nomark _)) (pss_one (ps_throw (W := fun c d _ H => E c d H) rfl (takes_of rfl rfl rfl rfl) Z hr pe_str)) pss_nil)
      (pss_cons (ps_if (pt_cmpR op_gt (pe_callB call_lenD rfl B.len PySem.boot_len (pa_cons (pe_fld (pv 0) rfl) pa_nil) (by decide) (by decide) (by rfl)) (pgI m2) (nomark _)) (pss_one (ps_throw (W := fun c d _ H => E c d H) rfl (takes_of rfl rfl rfl rfl) Z hr pe_str)) pss_nil)
      (pss_cons (ps_if (pt_cmpR op_gt (pe_callB call_lenD rfl B.len PySem.boot_len (pa_cons (pe_fld (pv 0) rfl) pa_nil) (by decide) (by decide) (by rfl)) (pgI m3) (nomark _)) (pss_one (ps_throw (W := fun c d _ H => E c d H) rfl (takes_of rfl rfl rfl rfl) Z hr pe_str)) pss_nil)
      (pss_one (ps_if (pt_cmpR op_gt (pe_fld (pv 0) rfl) (pgI m4) (nomark _)) (pss_one (ps_throw (W := fun c d _ H => E c d H) rfl (takes_of rfl rfl rfl rfl) Z hr pe_str)) pss_nil)))), ?_⟩
    obtain ⟨dx, hob⟩ := RR0.ob
    unfold limitsM at k
    refine ⟨_, rfl, _, _, rfl, rfl, _, rfl, ?_⟩
    by_cases c1 : 100 < n
    · rw [if_pos c1] at k
      exact iteT' (decide_eq_true (by omega)) (thrown_of (.str _ (by decide)) k)
    rw [if_neg c1] at k
    refine iteF' (decide_eq_false (by omega)) (nx_mk ?_)
    refine ⟨_, rfl, L.r, CR, dx, _, _, rfl, hob, R.cl, R.j, rfl, L.jd, _, rfl, RR0.jobs, _, _, rfl, rfl, _, rfl, ?_⟩
    have e2 : (kvsN L st.jobs).length = st.jobs.length := List.length_map ..
    rw [e2]
    by_cases c2 : 6 < st.jobs.length
    · rw [if_pos c2] at k
      exact iteT' (decide_eq_true (by omega)) (thrown_of (.str _ (by decide)) k)
    rw [if_neg c2] at k
    refine iteF' (decide_eq_false (by omega)) (nx_mk ?_)
    refine ⟨_, rfl, L.r, CR, dx, _, _, rfl, hob, R.cl, R.w, rfl, L.wd, _, rfl, RR0.walks, _, _, rfl, rfl, _, rfl, ?_⟩
    have e3 : (kvsN L st.walks).length = st.walks.length := List.length_map ..
    rw [e3]
    by_cases c3 : 6 < st.walks.length
    · rw [if_pos c3] at k
      exact iteT' (decide_eq_true (by omega)) (thrown_of (.str _ (by decide)) k)
    rw [if_neg c3] at k
    refine iteF' (decide_eq_false (by omega)) (nx_mk ?_)
    refine ⟨_, rfl, L.r, CR, dx, _, _, rfl, hob, R.cl, R.de, rfl, _, _, rfl, rfl, _, rfl, ?_⟩
    by_cases c4 : 6 < st.deepest
    · rw [if_pos c4] at k
      exact iteT' (decide_eq_true (by omega)) (thrown_of (.str _ (by decide)) k)
    rw [if_neg c4] at k
    exact iteF' (decide_eq_false (by omega)) k
end
end Ly
end
section
set_option Elab.async false
set_option linter.all false
set_option maxRecDepth 100000
namespace Ly
open PySem PySem.Spec PyProof.Rows L2
inductive Bad where
  | row (i : Nat) | unk (z : Str) | many (z : Str)
def goM : List Str → Nat → RS → Except Nat RS
  | [], _, st => .ok st
  | r :: rs, i, st => match takeM st (Txt.split r " ") with
    | none => .error i
    | some st' => goM rs (i + 1) st'
def endRows (st : RS) (n : Nat) : Except Bad RS :=
  if st.around ≠ [] then .error (.row n) else match namesM st with
    | some z => .error (.unk z)
    | none => match limitsM st n with
      | some z => .error (.many z)
      | none => .ok st
def readM (rows : List Str) : Except Bad RS := match goM rows 0 RS.start with
  | .error i => .error (.row i)
  | .ok st => endRows st rows.length
theorem begun_take {st st' : RS} {ps : List Str} {n : Nat} (h : takeM st ps = some st') (hb : ∀ z ∈ st.begun, z.length ≤ n) (hp : ∀ z ∈ ps, z.length ≤ n) : ∀ z ∈ st'.begun, z.length ≤ n := by
  have hnode : (nodeOf ps).name.length ≤ n := by
    have g : ∀ i, (ps.getD i "").length ≤ n := fun i => by
      rw [List.getD_eq_getElem?_getD]
      cases e : ps[i]? with
      | none => exact Nat.zero_le _
      | some z => exact hp z (List.mem_of_getElem? e)
    show (if ps.getD 0 "" = "repeat" then ("" : Str) else if 1 < ps.length then ps.getD 1 "" else "").length ≤ n
    split
    · exact Nat.zero_le _
    · split
      · exact g 1
      · exact Nat.zero_le _
  have add : ∀ {q : RS}, addM st (nodeOf ps) = some q → ∀ z ∈ q.begun, z.length ≤ n := fun {q} e z hz => by
    unfold addM at e
    split at e
    · cases e
    · have e := Option.some.inj e
      subst e
      have hz : z ∈ (if (nodeOf ps).word = "wait" ∨ (nodeOf ps).word = "open" then st.begun else if (nodeOf ps).word = "begin" then st.begun ++ [(nodeOf ps).name] else st.begun) := hz
      split at hz
      · exact hb z hz
      · split at hz
        · rcases List.mem_append.mp hz with h | h
          · exact hb z h
          · rw [List.mem_singleton.mp h]
            exact hnode
        · exact hb z hz
  unfold takeM defineM markM endM at h
  repeat' split at h
  all_goals first
    | (cases h; done)
    | exact add h
    | (have h := Option.some.inj h; subst h; exact hb)
section
variable {P : Program} {w : World} {K : PySem.W.Frag} {mg : Str → Option Value} {base : Heap} {CR CS : Addr}
def spRows (K : PySem.W.Frag) (CR CS CB CU CT : Addr) : Sp := fun vs H Q E => ∃ (a : Addr) (rows : List Str), vs = [.ref a] ∧ SqT K H a (rows.map V.str) ∧ rows.length ≤ 900 ∧ (∀ r ∈ rows, r.length ≤ 90000) ∧
  (match readM rows with
    | .ok st => ∀ H' L T, Same H H' → RR CR CS H H' L st T → Q (.ref L.r) H'
    | .error (.row i) => ∀ H', Same H H' → Out CB "at" (.int (i : Int)) H' E
    | .error (.unk z) => ∀ H', Same H H' → Out CU "name" (.str z) H' E
    | .error (.many z) => ∀ H', Same H H' → Out CT "word" (.str z) H' E)
theorem sc_rows : FnScope ["rows", "reader", "at", "row"] ["rows"] (defScope t_read_rows) := ⟨rfl, rfl, rfl, by decide +kernel, rfl, by decide +kernel, by decide +kernel⟩
/-- the defs that read_rows calls -/
structure RwF (P : Program) (w : World) (K : PySem.W.Frag) (mg : Str → Option Value) (base : Heap) (CR CS CB CU CT : Addr) (fI ft fn fl : Addr) (dI dt dn dl : FuncData) : Prop where
  GI : FnOk P w K mg base CX0 1 fI dI ["self"] (spRInit CR CS)
  MI : Mk K CR fI
  bI : Binds K dI ["self"] []
  GT : FnOk P w K mg base CX0 4 ft dt ["self", "parts"] (spTake K CR CS)
  mT : Meth K CR "take" ft
  bT : Binds K dt ["self", "parts"] []
  GN : FnOk P w K mg base (L2.CX P w) 4 fn dn ["reader"] (spNames CR CS CU)
  aN : mg "_check_names" = some (.ref fn)
  kN : PySem.W.keepIn K (.ref fn) = true
  bN : Binds K dn ["reader"] []
  GL : FnOk P w K mg base (L2.CX P w) 4 fl dl ["reader", "rows"] (spLimits CR CS CT)
  aL : mg "_check_limits" = some (.ref fl)
  kL : PySem.W.keepIn K (.ref fl) = true
  bL : Binds K dl ["reader", "rows"] []
theorem ok_rows {f CB CU CT fB fI ft fn fl : Addr} {fd dB dI dt dn dl : FuncData} {Bi i : String} (F : Fun K "read_rows" "read_rows" t_read_rows f fd) (B : Bt mg) (R : RdC K mg CR) (Y : RwF P w K mg base CR CS CB CU CT fI ft fn fl dI dt dn dl) (Z : Exq P w K mg base "BadRow" "at" CB fB dB Bi i) :
    FnOk P w K mg base (L2.CX P w) 5 f fd ["rows"] (spRows K CR CS CB CU CT) := by
  refine F.okX sc_rows (fun vs H Q E h => ?_) (fun cdv A outer s H vs Q E hr h => ?_)
  · obtain ⟨a, rows, rfl, _⟩ := h
    rfl
  · obtain ⟨a, rows, rfl, hq, hn, hz, k⟩ := h
    have nod := sc_rows.nd
    have hu := hu_of hr
    have hr2 : Room 2 _ := hr.mono (by decide)
    have hr3 : Room 3 _ := hr.mono (by decide)
    have tk : Takes (cxOf (L2.CX P w) P w K mg base ["rows", "reader", "at", "row"] "read_rows" (defScope t_read_rows) f cdv A outer s H E) (fun c d _ H => E c d H) := takes_of rfl rfl rfl rfl
    have ps := passes_call (E := E) tk (fun _ _ _ _ h => h)
    refine ⟨_, pss_cons (ps_set (i := 1) nod rfl (Or.inl rfl) (pe_make0 Y.MI Y.GI hr2 rfl R.g Y.bI .nil pass0))
      (pss_cons (ps_for (passes_of rfl) rfl (pi_enumT rfl B.enum (pa_cons (pv 0) pa_nil)) (pg_tup rfl (pgs_cons (pg_name (i := 2) nod rfl (Or.inl rfl)) (pgs_cons (pg_name (i := 3) nod rfl (Or.inl rfl)) pgs_nil)))
        (pss_one (ps_if (pt_not (pt_val (pe_meth (pv 1) R.cl Y.mT Y.GT hr Y.bT .nil pass0 (pa_cons (pe_split (pv 3) pe_str) pa_nil)))) (pss_one (ps_throw (W := fun c d _ H => E c d H) rfl tk Z hr3 (pv 2))) pss_nil)))
      (pss_cons (ps_if (pt_truth (pe_fld (pv 1) rfl) (by intro _; rfl)) (pss_one (ps_throw (W := fun c d _ H => E c d H) rfl tk Z hr3 (pLenQ B.len (pv 0)))) pss_nil)
      (pss_cons (ps_expr (pe_call Y.GN hr rfl Y.aN Y.kN Y.bN .nil ps (pa_cons (pv 1) pa_nil)))
      (pss_cons (ps_expr (pe_call Y.GL hr rfl Y.aL Y.kL Y.bL .nil ps (pa_cons (pv 1) (pa_cons (pLenQ B.len (pv 0)) pa_nil))))
      (pss_one (ps_ret (pv 1))))))), ?_⟩
    intro x dx nx nd ne
    refine ⟨x, dx, H, rfl, upd_same, fun b o e => by rw [upd_ne (ne_of_none e nx), upd_ne (ne_of_none e nd)]; exact e, nx, fun H1 L T hL hT RR1 => ⟨rfl, nx_of ?_⟩⟩
    have RR1 : RR CR CS H H1 L RS.start 0 := { RR1 with szL := fun y h => by cases y <;> exact Nat.le_refl 0, szJ := Nat.le_refl 0, szW := Nat.le_refl 0, szN := Nat.le_refl 0, szT := by decide }
    refine ⟨_, rfl, a, _, rfl, same_t RR1.base hq, ?_⟩
    refine for_it (walk_enumT (K := K) (a := a) (xs := rows.map V.str)) (fun i σ H' => ∃ v2 v3 L st, σ = [some (.ref a), some (.ref x), v2, v3] ∧ L.r = x ∧ RR CR CS H H' L st i ∧ goM (rows.drop i) i st = goM rows 0 RS.start ∧ ∀ z ∈ st.begun, z.length ≤ 100000)
      ⟨none, none, L, RS.start, rfl, hL, RR1, rfl, fun z hz => absurd hz (by simp [RS.start])⟩ (fun i σ H' _ ⟨_, _, _, _, _, _, q, _⟩ => same_t q.base hq) ?_ ?_
    · rintro i y σ H2 H3 hi ⟨v2, v3, L2, st, rfl, hL2, R2, hg, hb⟩ ⟨T3, x3, y3, rfl, nT3, rfl, ex, ey⟩
      obtain rfl : V.int (i : Int) = x3 := Option.some.inj ex
      have hi' : i < rows.length := by rw [List.length_map] at hi; exact hi
      have ey : (rows.map V.str)[i]? = some y3 := ey
      have ey' : y3 = V.str rows[i] := by
        rw [List.getElem?_map, List.getElem?_eq_getElem hi'] at ey
        exact (Option.some.inj ey).symm
      subst ey'
      have R3 := R2.same (same_new (o := .tup [V.int (i : Int), V.str rows[i]]) nT3)
      generalize hH3 : upd H2 T3 (.tup [V.int (i : Int), V.str rows[i]]) = H3 at R3
      refine ⟨T3, _, rfl, SqT.of (by rw [← hH3]; exact upd_same), rfl, _, _, rfl, _, _, rfl, ⟨rfl, ?_⟩⟩
      clear hH3
      have hrz : rows[i].length ≤ 90000 := hz _ (List.getElem_mem hi')
      obtain ⟨dy, hob⟩ := R3.ob
      refine ⟨_, rfl, x, dy, _, rfl, by rw [← hL2]; exact hob, rfl, ?_⟩
      refine ⟨_, rfl, ⟨_, rfl⟩, _, _, rfl, rfl, by decide +kernel, by rw [sizeLine_eq]; omega, fun p hp => ?_⟩
      have R4 := R3.same (same_new (o := .lst ((Txt.split rows[i] " ").map V.str)) hp)
      have hne : Txt.split rows[i] " " ≠ [] := fun z => by
        have := split_pos rows[i] " "
        rw [z] at this
        exact absurd this (by decide)
      have hpl : ∀ z ∈ Txt.split rows[i] " ", z.length ≤ 90000 := fun z hz' => Nat.le_trans (part_short hz') hrz
      rw [List.drop_eq_getElem_cons hi'] at hg
      refine ⟨p, Txt.split rows[i] " ", H, L2, st, i, by rw [hL2]; rfl, R4, by omega, SqL.of upd_same, hne, Nat.le_trans (split_le _ _) (by omega), fun z hz' => Nat.le_trans (hpl z hz') (by decide), ?_⟩
      have hg' : (match takeM st (Txt.split rows[i] " ") with | none => (.error i : Except Nat RS) | some st' => goM (rows.drop (i + 1)) (i + 1) st') = goM rows 0 RS.start := hg
      cases ht : takeM st (Txt.split rows[i] " ") with
      | none =>
        rw [ht] at hg'
        intro H5 R5
        refine ⟨_, rfl, iteT ⟨_, rfl, thrown_of (.int i (by omega)) ?_⟩⟩
        have e : readM rows = .error (.row i) := by unfold readM; rw [← hg']
        rw [e] at k
        exact k H5 R5.base
      | some st' =>
        rw [ht] at hg'
        intro H5 L5 hL5 R5
        exact ⟨_, rfl, iteF ⟨_, _, L5, st', rfl, hL5.trans hL2, R5, hg', begun_take ht hb fun z hz' => Nat.le_trans (hpl z hz') (by decide)⟩⟩
    · rintro σ H2 ⟨v2, v3, L2, st, rfl, hL2, R2, hg, hb⟩
      rw [List.length_map, List.drop_length] at hg
      have hg : (.ok st : Except Nat RS) = goM rows 0 RS.start := hg
      have er : readM rows = endRows st rows.length := by unfold readM; rw [← hg]
      rw [er] at k
      unfold endRows at k
      refine nx_mk ?_
      obtain ⟨dy, hob⟩ := R2.ob
      subst hL2
      refine ⟨_, rfl, L2.r, CR, dy, _, _, rfl, hob, R.cl, R.ar, rfl, !(refs L2 st.around).isEmpty, .inl ⟨_, SqL.of (R2.lst .r trivial), rfl⟩, ?_⟩
      by_cases c1 : st.around = []
      · refine iteF' (by rw [c1]; rfl) (nx_mk ?_)
        rw [if_neg fun z => z c1] at k
        refine ⟨_, rfl, H, L2, st, _, rfl, R2, hb, ?_⟩
        cases e1 : namesM st with
        | some z =>
          rw [e1] at k
          exact fun H' q => k H' (R2.base.trans q)
        | none =>
          rw [e1] at k
          intro H4 q4
          have R4 := R2.same q4
          refine nx_mk ?_
          refine ⟨_, rfl, _, rfl, a, _, rfl, .inr (same_t R4.base hq), ?_⟩
          refine ⟨H, L2, st, _, rows.length, by rw [List.length_map]; rfl, R4, ?_⟩
          cases e2 : limitsM st rows.length with
          | some z =>
            rw [e2] at k
            exact k H4 R4.base
          | none =>
            rw [e2] at k
            exact ⟨_, rfl, k H4 L2 _ R4.base R4⟩
      · refine iteT' (by cases e : st.around with | nil => exact absurd e c1 | cons i r => rfl) ?_
        rw [if_pos c1] at k
        refine ⟨_, rfl, a, _, rfl, .inr (same_t R2.base hq), ?_⟩
        rw [List.length_map]
        exact thrown_of (.int rows.length (by omega)) (k H2 R2.base)
end
end Ly
end
section
set_option Elab.async false
set_option linter.all false
set_option maxRecDepth 100000
set_option maxHeartbeats 2000000
/-! Sets of texts: set(xs) of a list of texts, sorted(s). -/
namespace Ly
open PySem PySem.Spec PyProof.Rows L2
def txtOf (e : Int × Value) : Str := match e.2 with | .str z _ => z | _ => Str.empty
def GoodT (P : Program) (w : World) (e : Int × Value) : Prop := ∃ z tk, e.2 = .str z tk ∧ e.1 = (PySem.strKind P w).hash z
def SetT (P : Program) (w : World) (h : Heap) (a : Addr) (S : Str → Bool) (n : Nat) : Prop :=
  ∃ o es ep t, h.get? a = some o ∧ o.ExactSet ∧ o.data = .set es ep t ∧ (∀ e ∈ es.toList, GoodT P w e) ∧ (es.toList.map txtOf).Nodup ∧ (∀ k, S k = true ↔ k ∈ es.toList.map txtOf) ∧
    es.size < scanBound ∧ t.fits es.size = true ∧ es.size = n ∧ Ris t.place.toList ∧ (w.params.followText "set-order" = true ∨ t.led = true)
section
variable {P : Program} {w : World} {h h' : Heap} {a : Addr} {S : Str → Bool} {n : Nat}
theorem SetT.keep (R : SetT P w h a S n) (k : ∀ o, h.get? a = some o → h'.get? a = some o) : SetT P w h' a S n := by
  obtain ⟨o, es, ep, t, ho, r⟩ := R
  exact ⟨o, es, ep, t, k o ho, r⟩
theorem SetT.same {S' : Str → Bool} {m : Nat} (R : SetT P w h a S n) (e : ∀ k, S' k = S k) (en : n = m) : SetT P w h a S' m := by
  obtain rfl : S' = S := funext e
  subst en
  exact R
theorem goodT_elems {l : List (Int × Value)} (g : ∀ e ∈ l, GoodT P w e) : ElemsOf (PySem.strKind P w) l := fun e he => by
  obtain ⟨z, tk, h1, h2⟩ := g e he
  exact ⟨⟨z, by rw [h1]; exact PySem.strKind_is P w z tk, h2⟩, by rw [h1] <;> rfl⟩
theorem goodT_is {e : Int × Value} (g : GoodT P w e) (k : Str) : (PySem.strKind P w).is k e.2 = true ↔ txtOf e = k := by
  obtain ⟨z, tk, h1, _⟩ := g
  unfold txtOf
  rw [h1]
  show Value.isStrOf k (.str z tk) = true ↔ z = k
  constructor
  · intro q
    obtain ⟨u, e⟩ := Value.isStrOf_shape q
    injection e
  · rintro rfl
    exact PySem.strKind_is P w z tk
theorem goodT_mem {l : List (Int × Value)} (g : ∀ e ∈ l, GoodT P w e) (k : Str) : k ∈ l.map txtOf ↔ ∃ e ∈ l, (PySem.strKind P w).is k e.2 = true :=
  ⟨fun z => let ⟨e, he, q⟩ := List.mem_map.mp z; ⟨e, he, (goodT_is (g e he) k).2 q⟩, fun ⟨e, he, q⟩ => List.mem_map.mpr ⟨e, he, (goodT_is (g e he) k).1 q⟩⟩
end
section
variable {P : Program} {w : World} {A : Around} {E : Value → Shared → Prop} {s : Shared} {a : Addr} {S : Str → Bool} {n : Nat}
theorem setT_tail {gv : Bool → Sem Unit} (hgv : ∀ (b : Bool) (s₁ : Shared) (Q' : Unit → Shared → Prop), Q' () s₁ → wpAny (model P w) A (gv b) Q' E s₁) {o : Obj} {es : Array (Int × Value)} {ep : Nat} {t : SetTable}
    (ho : s.heap.get? a = some o) (hx : o.ExactSet) (hd : o.data = .set es ep t) {fs : Array (Int × Value)} {u : SetTable} {S' : Str → Bool} (g1 : ∀ e ∈ fs.toList, GoodT P w e) (n1 : (fs.toList.map txtOf).Nodup)
    (m1 : ∀ k, S' k = true ↔ k ∈ fs.toList.map txtOf) (b1 : fs.size < scanBound) (f1 : u.fits fs.size = true) (r1 : Ris u.place.toList) (l1 : w.params.followText "set-order" = true ∨ u.led = true) {wasD : Bool} {R : Option Bool → Shared → Prop}
    (hR : ∀ h', Heap.SameBut a s.heap h' → SetT P w h' a S' fs.size → R (some true) { s with heap := h' }) :
    wpAny (model P w) A (do
        storeSet a fs u
        if (!wasD && u.tooFull) = true then do
            gv (relayAll u fs (SetTable.grown fs.size)).2.2
            storeSet a (relayAll u fs (SetTable.grown fs.size)).1 (relayAll u fs (SetTable.grown fs.size)).2.1
            pure (some true)
          else pure (some true)) R E s := by
  have ho1 := store_at (es' := fs) (t' := u) ho hd
  have sb := Heap.SameBut.update s.heap a (Obj.putSet fs u)
  refine wpAny_bind (wpAny_storeSet_of ho hd ?_ (fits_of_scanBound b1))
  split
  · have q1 := relayAll_perm u fs (SetTable.grown fs.size)
    have q2 := relayAll_fits u fs (SetTable.grown fs.size)
    have q3 := relayAll_ris u fs (SetTable.grown fs.size)
    have q4 := relayAll_led u fs (SetTable.grown fs.size)
    generalize relayAll u fs (SetTable.grown fs.size) = Z at q1 q2 q3 q4 ⊢
    obtain ⟨es2, u3, gave⟩ := Z
    dsimp only at q1 q2 q3 q4 ⊢
    have sz : es2.size = fs.size := by rw [← Array.length_toList, q1.length_eq, Array.length_toList]
    refine wpAny_bind (hgv _ _ _ ?_)
    have b2 : es2.size < scanBound := by rw [sz]; exact b1
    refine wpAny_bind (wpAny_storeSet_of ho1 rfl ?_ (fits_of_scanBound b2))
    exact wpAny_pure (hR _ (sb.trans (Heap.SameBut.update _ a _)) ⟨_, es2, _, u3, store_at (es' := es2) (t' := u3) ho1 rfl, hx, rfl, fun e he => g1 e (q1.mem_iff.mp he), (q1.map txtOf).nodup_iff.mpr n1,
      fun k => (m1 k).trans (q1.map txtOf).mem_iff.symm, b2, q2, sz, q3, l1.imp id fun z => by rw [q4]; exact z⟩)
  · exact wpAny_pure (hR _ sb ⟨_, fs, _, u, ho1, hx, rfl, g1, n1, m1, b1, f1, rfl, r1, l1⟩)
theorem setT_add {k : Str} {tk : Tok} {Q : Bool → Shared → Prop} (R : SetT P w s.heap a S n) (room : n + 1 < scanBound)
    (hQ : ∀ h', Heap.SameBut a s.heap h' → SetT P w h' a (fun j => S j || decide (j = k)) (if S k = true then n else n + 1) → Q (!S k) { s with heap := h' }) :
    wpAny (model P w) A (setAddHashed a (.str k tk) ((PySem.strKind P w).hash k)) Q E s := by
  obtain ⟨o, es, ep, t, ho, hx, hd, g, nd, hm, hb, hf, hn, hr, hl⟩ := R
  have isk : (PySem.strKind P w).is k (.str k tk) = true := PySem.strKind_is P w k tk
  have scn : (Value.str k tk).scannable = true := rfl
  have els : ElemsOf (PySem.strKind P w) es.toList := goodT_elems g
  unfold setAddHashed setAddHashedIn
  refine wpAny_holding (wpAny_bind (wpAny_setState_of ho hd hf ?_))
  dsimp only
  rw [byScan_of scn hb els]
  simp only [↓reduceIte]
  unfold setAddByScan
  refine wpAny_bind ?_
  refine wpAny_bind (wpAny_rule ?_)
  refine wpAny_bind (wpAny_setScan_of isk ho hd hf els ?_)
  cases fi : List.findIdx? (fun e => (PySem.strKind P w).is k e.2) es.toList with
  | some j =>
    dsimp only
    obtain ⟨j1, j2, _⟩ := List.findIdx?_eq_some_iff_getElem.mp fi
    have yes : S k = true := (hm k).2 ((goodT_mem g k).2 ⟨es.toList[j], List.getElem_mem j1, j2⟩)
    have q := hQ s.heap (Heap.SameBut.refl a s.heap) ⟨o, es, ep, t, ho, hx, hd, g, nd, fun i => by
      rw [Bool.or_eq_true, decide_eq_true_eq, ← hm i]
      exact ⟨fun z => z.elim id fun e => by rw [e]; exact yes, .inl⟩, hb, hf, by rw [if_pos yes]; exact hn, hr, hl⟩
    rw [yes] at q
    exact wpAny_pure (wpAny_pure q)
  | none =>
    dsimp only
    have nk : k ∉ es.toList.map txtOf := fun z => by
      obtain ⟨e, he, q⟩ := (goodT_mem g k).1 z
      have c := List.findIdx?_eq_none_iff.mp fi e he
      rw [q] at c
      cases c
    have nos : S k = false := by
      cases q : S k with
      | false => rfl
      | true => exact absurd ((hm k).1 q) nk
    have gave : ∀ (b : Bool) {s₁ : Shared} {Q' : Unit → Shared → Prop}, Q' () s₁ → wpAny (model P w) A (match b with | true => rule "set.scan.the-table-gave-way" | false => pure ()) Q' E s₁ := fun b s₁ Q' q => by
      cases b <;> first | exact wpAny_rule q | exact wpAny_pure q
    have y1 := layNew_perm t es ((PySem.strKind P w).hash k) (.str k tk)
    have y2 := layNew_fits t es ((PySem.strKind P w).hash k) (.str k tk)
    have y3 := layNew_ris t es ((PySem.strKind P w).hash k) (.str k tk) hr
    have y4 := layNew_led t es ((PySem.strKind P w).hash k) (.str k tk)
    generalize layNew t es ((PySem.strKind P w).hash k) (.str k tk) = Z at y1 y2 y3 y4 ⊢
    obtain ⟨es1, t1, wasD, gv⟩ := Z
    dsimp only at y1 y2 y3 y4 ⊢
    rw [Array.toList_push] at y1
    have pc : es1.toList.Perm (((PySem.strKind P w).hash k, Value.str k tk) :: es.toList) := y1.trans (List.perm_append_singleton _ _)
    have pk : (es1.toList.map txtOf).Perm (k :: es.toList.map txtOf) := pc.map txtOf
    have g1 : ∀ e ∈ es1.toList, GoodT P w e := fun e he => (List.mem_cons.mp (pc.mem_iff.mp he)).elim (fun z => by rw [z]; exact ⟨k, tk, rfl, rfl⟩) (g e)
    have n1 : (es1.toList.map txtOf).Nodup := pk.nodup_iff.mpr (List.nodup_cons.mpr ⟨nk, nd⟩)
    have m1 : ∀ i, (S i || decide (i = k)) = true ↔ i ∈ es1.toList.map txtOf := fun i => by
      rw [Bool.or_eq_true, decide_eq_true_eq, hm i, pk.mem_iff, List.mem_cons]
      exact Or.comm
    have sz : es1.size = n + 1 := by rw [← Array.length_toList, pc.length_eq, List.length_cons, Array.length_toList, hn]
    have b1 : es1.size < scanBound := by rw [sz]; exact room
    have l1 : w.params.followText "set-order" = true ∨ t1.led = true := hl.imp id fun z => by rw [y4]; exact z
    have fin : ∀ h', Heap.SameBut a s.heap h' → SetT P w h' a (fun j => S j || decide (j = k)) es1.size → Q true { s with heap := h' } := fun h' sb r => by
      have q := hQ h' sb
      rw [nos] at q
      rw [sz] at r
      exact q r
    refine wpAny_bind (gave _ ?_)
    split
    · refine wpAny_bind ?_
      rw [hashByValue_scannable 8 scn]
      refine wpAny_pure ?_
      refine setT_tail ?_ ho hx hd g1 n1 m1 b1 ?_ ?_ ?_ ?_
      · intro b s₁ Q' q; cases b <;> first | exact wpAny_rule q | exact wpAny_pure q
      · first | (split <;> first | exact y2 | exact SetTable.fits_plain_off y2) | exact y2
      · first | (split <;> exact y3) | exact y3
      · first | (split <;> exact l1) | exact l1
      · intro h' sb r; dsimp only; exact wpAny_pure (fin h' sb r)
    · refine wpAny_bind (wpAny_pure ?_)
      simp only [↓reduceIte]
      refine setT_tail ?_ ho hx hd g1 n1 m1 b1 y2 y3 l1 ?_
      · intro b s₁ Q' q; cases b <;> first | exact wpAny_rule q | exact wpAny_pure q
      · intro h' sb r; dsimp only; exact wpAny_pure (fin h' sb r)
end
/-- the set at a holds just the texts xs -/
def SetX (P : Program) (w : World) (h : Heap) (a : Addr) (xs : List Str) : Prop := ∃ S m, SetT P w h a S m ∧ m ≤ xs.length ∧ ∀ k, S k = true ↔ k ∈ xs
theorem SetX.keep {P : Program} {w : World} {h h' : Heap} {a : Addr} {xs : List Str} (R : SetX P w h a xs) (k : ∀ o, h.get? a = some o → h'.get? a = some o) : SetX P w h' a xs :=
  let ⟨S, m, r, z⟩ := R
  ⟨S, m, r.keep k, z⟩
section
variable {prog : Program} {w : World} {A : Around} {R : Result → Shared → Prop} {I : Addr} {fp wr : List Addr} {G : Array GenState → Array GenState → Prop} {n : Nat} {Pv : Nat → Value → Prop} {St : Nat → Shared → Prop}
theorem loopT (W : WalksS prog w A.in1 I fp wr G n Pv St) (D : Addr) (hD : D ∉ fp) (xs : List Str) (hsz : xs.length = n) (hn : n < 1000) (hv : ∀ i v, Pv i v → ∃ t, v = .str (xs.getD i Str.empty) t) :
    ∀ (k i : Nat) (s : Shared), n - i = k → i ≤ n → St i s → SetX prog w s.heap D (xs.take i) →
      (∀ s', Moved (D :: wr) G s s' → SetX prog w s'.heap D xs → R (.ok (.ret .none)) s') → codeAny (model prog w) A (.builtin "set.update.loop" ⟨[.ref D, .ref I], []⟩) R s := by
  have hDw : D ∉ wr := fun z => hD (W.sub _ z)
  have up : ∀ b ∈ wr, b ∈ D :: wr := fun b z => List.mem_cons_of_mem _ z
  intro k
  induction k with
  | zero =>
    intro i s hk hi st hS hR
    have e : i = n := by omega
    subst e
    refine codeAny_builtin PyProof.Rows.F.entry_set_update_loop ?_
    rw [Around.under_plainId PyProof.Rows.F.plain_set_update_loop _]
    show wpAny _ A.in1 (pyNext (.ref I) >>= _) _ _ s
    refine wpAny_bind (W.done s _ _ st fun s' mv => ?_)
    show wpAny _ A.in1 (ret Value.none) _ _ s'
    rw [← hsz, List.take_length] at hS
    exact wpAny_pure (hR s' (mv.mono up) (hS.keep fun o z => mv.heap D o hDw z))
  | succ k ih =>
    intro i s hk hi st hS hR
    have hlt : i < n := by omega
    refine codeAny_builtin PyProof.Rows.F.entry_set_update_loop ?_
    rw [Around.under_plainId PyProof.Rows.F.plain_set_update_loop _]
    show wpAny _ A.in1 (pyNext (.ref I) >>= _) _ _ s
    refine wpAny_bind (W.item i s _ _ hlt st fun v s' hP st' mv => ?_)
    obtain ⟨t, rfl⟩ := hv i v hP
    obtain ⟨S, m, hT, hm, hS1⟩ := hS.keep (h' := s'.heap) fun o z => mv.heap D o hDw z
    have lm : m ≤ i := Nat.le_trans hm (by rw [List.length_take]; exact Nat.min_le_left _ _)
    show wpAny _ A.in1 (holding [Value.str (xs.getD i Str.empty) t] (setAdd D (.str (xs.getD i Str.empty) t)) >>= _) _ _ s'
    refine wpAny_bind (wpAny_holding ?_)
    unfold setAdd
    refine wpAny_holding ?_
    refine wpAny_bind ((PySem.strKind prog w).pyHash (k := xs.getD i Str.empty) (PySem.strKind_is _ _ _ _) ?_)
    refine setT_add (s := { s' with toks := s'.toks + 1 }) hT (by unfold scanBound; omega) fun h' sb hT2 => ?_
    have ex : xs.getD i Str.empty = xs[i] := by rw [List.getD_eq_getElem?_getD, List.getElem?_eq_getElem (by omega)]; rfl
    have hX : SetX prog w h' D (xs.take (i + 1)) := by
      refine ⟨_, _, hT2, ?_, fun k' => ?_⟩
      · rw [List.length_take]
        split <;> omega
      · rw [List.take_succ, List.getElem?_eq_getElem (by omega), Bool.or_eq_true, decide_eq_true_eq, hS1 k', ex, List.mem_append]
        exact or_congr Iff.rfl List.mem_singleton.symm
    refine wpAny_pure ⟨plainId_quiet PyProof.Rows.F.plain_set_update_loop _, ih (i + 1) _ (by omega) hlt (W.frame _ s' _ _ st' (Nat.le_succ _) fun b hb o e => ?_) hX fun s2 m2 hS2 => ?_⟩
    · rw [sb.2 b fun z => hD (by rw [← z]; exact hb)]
      exact e
    · refine hR s2 (Moved.trans W.gtrans ((mv.mono up).then_heap (Nat.le_succ _) fun b o hb e => ?_) m2) hS2
      rw [sb.2 b fun z => hb (by rw [z]; exact List.mem_cons_self)]
      exact e
end
section
variable {P : Program} {w : World} {A : Around} {E : Value → Shared → Prop} {s : Shared}
theorem code_set1 (v : Value) {Q₁ : Value → Shared → Prop} (h : Q₁ (.ref s.heap.objs.size) { s with heap := s.heap.push { cls := .type "set", dict := none, data := .set #[] 0 (.fresh 0 0 (!w.params.followText "set-order")) } }) :
    codeAny (model P w) A (.call (.builtin "set.__new__") ⟨[.type "set", v], []⟩) (wants Q₁ E) s := by
  refine codeAny_of_tree ?_
  show wpAny _ A.in1 (do checkBuiltinCall "set.__new__" ⟨[.type "set", v], []⟩; again (.builtin "set.__new__" ⟨[.type "set", v], []⟩)) _ _ s
  refine wpAny_bind (wpAny_of_eq (F.newCall_set_1 v) (wpAny_pure ⟨plainId_quiet F.plain_set_new _, codeAny_builtin F.entry_set_new ?_⟩))
  rw [Around.under_plainId F.plain_set_new _]
  unfold Builtin.«set.__new__» Builtin.Frozenset.newClass
  have ss := sub_set_self
  obtain ⟨h0, gs0, dr0, tk0, os0⟩ := s
  (dsimp only; wp_walk)
  refine wpAny_askSetting (wpAny_pure ?_); (dsimp only; simp only [newObj])
  exact wpAny_bind (wpAny_alloc (wpAny_pure (wpAny_pure h)))
theorem setX_fresh {h : Heap} : SetX P w (h.push { cls := .type "set", dict := none, data := .set #[] 0 (.fresh 0 0 (!w.params.followText "set-order")) }) h.objs.size [] :=
  ⟨fun _ => false, 0, ⟨_, #[], 0, _, Heap.get?_push_size _ rfl, ⟨rfl, rfl, rfl⟩, rfl, (fun e he => by simp at he), (by simp), (fun k => by simp), (by decide), (by rfl), rfl, List.Pairwise.nil, by
    show _ ∨ (!w.params.followText "set-order") = true
    cases w.params.followText "set-order"
    · exact .inr rfl
    · exact .inl rfl⟩, Nat.le_refl 0, fun k => by simp⟩
set_option maxHeartbeats 3200000 in
theorem call_set_txt {l : Addr} {items : Array Value} {xs : List Str} {Q : Value → Shared → Prop} (hh : A.handled = none) (hl : s.heap.IsList l items) (hi : PyProof.Rows.StrsAre items.toList xs) (hn : xs.length < 1000)
    (h : ∀ (h' : Heap) (tk : Nat), SetX P w h' s.heap.objs.size xs → (∀ b o, b < s.heap.objs.size → s.heap.get? b = some o → h'.get? b = some o) → Q (.ref s.heap.objs.size) { s with heap := h', toks := tk }) :
    wpAny (model P w) A (call (.type "set") [.ref l]) Q E s := by
  obtain ⟨c, tl, cmro⟩ := PySem.F.called_set.mro
  have cmade := PySem.F.called_set.made
  have csub := PySem.F.called_set.sub
  refine wpAny_call (codeAny_of_tree ?_)
  show wpAny _ _ (callAny (.type "set") _) _ _ _
  refine wpAny_pure ⟨Code.quiet_builtin _ (by decide +kernel), codeAny_builtin PySem.F.entry_type_call ?_⟩
  rw [Around.under_plain (weight_type_call_type "set" [.ref l] []) rfl]
  have c1 := PySem.F.called_set.notType
  have c2 := PySem.F.called_set.canCreate
  have c3 := PySem.F.typeCall_set_1 (.ref l)
  repeat (any_goals (first | assumption | wp_step))
  refine codeAny_mono (code_set1 (.ref l) (E := E) (Q₁ := fun ob s1 => ob = .ref s.heap.objs.size ∧ s1 = { s with heap := s.heap.push { cls := .type "set", dict := none, data := .set #[] 0 (.fresh 0 0 (!w.params.followText "set-order")) } }) ⟨rfl, rfl⟩) fun r s1 hr => ?_
  cases r with
  | error e => exact hr
  | ok fl =>
    cases fl with
    | ret ob =>
      obtain ⟨rfl, rfl⟩ := hr
      have fx : SetX P w (s.heap.push { cls := .type "set", dict := none, data := .set #[] 0 (.fresh 0 0 (!w.params.followText "set-order")) }) s.heap.objs.size [] := setX_fresh
      generalize (!w.params.followText "set-order") = ld at fx ⊢
      have hS : (s.heap.push { cls := .type "set", dict := none, data := .set #[] 0 (.fresh 0 0 ld) }).get? s.heap.objs.size = some { cls := .type "set", dict := none, data := .set #[] 0 (.fresh 0 0 ld) } := Heap.get?_push_size _ rfl
      have hT : Shared.TypeIs { s with heap := s.heap.push { cls := .type "set", dict := none, data := .set #[] 0 (.fresh 0 0 ld) } } (.ref s.heap.objs.size) "set" := ⟨_, hS, rfl⟩
      have d1 := PySem.F.called_set.init.lookup
      have d2 := PySem.F.called_set.init.bind (.ref s.heap.objs.size)
      repeat (any_goals (first | assumption | wp_step))
      refine codeAny_mono (codeAny_call_builtin (R := wants (fun r s2 => r = .none ∧ ∃ h' tk, s2 = { s with heap := h', toks := tk } ∧ SetX P w h' s.heap.objs.size xs ∧ (∀ b o, b < s.heap.objs.size → s.heap.get? b = some o → h'.get? b = some o)) E)
        PySem.F.called_set.init.plain PySem.F.entry_set_init (check_set_init_1 hT ?_)) fun r2 s2 hr2 => ?_
      · obtain ⟨ol, hol, hcl, nl, hdl⟩ := hl
        obtain ⟨ocls, odict, odata, oslots⟩ := ol; simp only at hcl hdl; subst hcl hdl
        have hol2 : (s.heap.push { cls := .type "set", dict := none, data := .set #[] 0 (.fresh 0 0 ld) }).get? l = some { cls := .type "list", dict := odict, data := .seq items nl, slots := oslots } := Heap.get?_push_of_some _ hol
        have e1 := PySem.F.sub_list_set
        have e2 := PySem.F.sub_list_frozenset
        have e3 : (Value.type "list" == Value.type "dict") = false := by decide
        have hl2 : (s.heap.push { cls := .type "set", dict := none, data := .set #[] 0 (.fresh 0 0 ld) }).IsList l items := ⟨_, hol2, rfl, nl, rfl⟩
        unfold Builtin.«set.__init__» noKeywords Builtin.Frozenset.updateFrom
        generalize hPI : pyIter = PI
        wp_walk
        subst hPI
        refine wpAny_pyIter_list hl2 ?_
        refine wpAny_bind (wpAny_runValue ?_)
        have lS : l < s.heap.objs.size := Heap.lt_size hol
        have h3 : A.in1.in1.in1.handled = none := by simp [hh]
        have nI : l ≠ (s.heap.push { cls := .type "set", dict := none, data := .set #[] 0 (.fresh 0 0 ld) }).objs.size := by rw [Heap.size_push]; exact Nat.ne_of_lt (Nat.lt_succ_of_lt lS)
        have nS : s.heap.objs.size ∉ [(s.heap.push { cls := .type "set", dict := none, data := .set #[] 0 (.fresh 0 0 ld) }).objs.size, l] := by
          rw [Heap.size_push]; simp only [List.mem_cons, List.mem_singleton, List.not_mem_nil, or_false, not_or]
          exact ⟨Nat.ne_of_lt (Nat.lt_succ_self _), Nat.ne_of_gt lS⟩
        have zz : xs.length = items.size := by rw [← StrsAre.len_eq hi, Array.length_toList]
        have hv : ∀ (i : Nat) (v : Value), items[i]? = some v → ∃ t, v = .str (xs.getD i Str.empty) t := fun i v q => SS.strs_at hi i v (by rw [Array.getElem?_toList]; exact q)
        refine loopT ((Walks.list h3 _ l nI items).toS) s.heap.objs.size nS xs zz (by rw [← zz]; exact hn) hv (items.size - 0) 0 _ (by omega) (Nat.zero_le _) ⟨⟨_, Heap.get?_push_size _ rfl, rfl, rfl⟩, (hl2.push _)⟩ ?hS0 ?hR
        case hS0 =>
          rw [List.take_zero]
          exact fx.keep fun o z => Heap.get?_push_of_some _ z
        case hR =>
          intro s' mv hS'
          obtain ⟨h', g', d', tk', os'⟩ := s'
          have eg : g' = s.gens := mv.gens
          have ed : d' = s.drawn := mv.drawn
          have eo : os' = s.os := mv.os
          subst eg ed eo
          show wpAny _ _ _ _ _ _; refine wpAny_pure ?_
          change wpAny _ _ (ret Value.none) _ _ _; refine wpAny_pure ⟨rfl, h', tk', rfl, hS', fun b o hb e => ?_⟩
          have b1 : b ≠ s.heap.objs.size := Nat.ne_of_lt hb
          have b2 : b ≠ (s.heap.push { cls := .type "set", dict := none, data := .set #[] 0 (.fresh 0 0 ld) }).objs.size := by rw [Heap.size_push]; exact Nat.ne_of_lt (Nat.lt_succ_of_lt hb)
          exact mv.heap b o (by simp only [List.mem_cons, List.mem_singleton, List.not_mem_nil, or_false, not_or]; exact ⟨b1, b2⟩) (Heap.get?_push_of_some _ (Heap.get?_push_of_some _ e))
      · cases r2 with
        | error e => exact hr2
        | ok fl2 =>
          cases fl2 with
          | ret r =>
            obtain ⟨rfl, h', tk, rfl, hS', hk'⟩ := hr2
            repeat (any_goals (first | assumption | wp_step))
            exact h _ _ hS' hk'
          | _ => exact hr2.elim
    | _ => exact hr.elim
end
end Ly
end
section
set_option Elab.async false
set_option linter.all false
set_option maxRecDepth 100000
set_option maxHeartbeats 2000000
namespace Ly
open PySem PySem.Spec PyProof.Rows L2
section
variable {P : Program} {w : World} {A : Around} {E : Value → Shared → Prop} {s : Shared} {a : Addr}
theorem goodT_strs : ∀ (vs : List Value), (∀ v ∈ vs, ∃ z tk, v = Value.str z tk) → StrsAre vs (vs.map fun v => match v with | .str z _ => z | _ => Str.empty)
  | [], _ => .nil
  | v :: r, h => by
    obtain ⟨z, tk, rfl⟩ := h v List.mem_cons_self
    exact .cons z tk (goodT_strs r fun u hu => h u (List.mem_cons_of_mem _ hu))
theorem sorted_txt {xs : List Str} {Q : Value → Shared → Prop} (R : SetX P w s.heap a xs) (hh : A.handled = none) (h64 : xs.length < 64)
    (hQ : ∀ s' p (out : Array Value) (c : Nat) (ys : List Str), (∀ b o, s.heap.get? b = some o → s'.heap.get? b = some o) → s'.gens = s.gens → s'.os = s.os → s.heap.objs.size ≤ p →
      s'.heap.get? p = some (seqObj "list" out c) → StrsAre out.toList ys → sortedS ys = true → ys.Nodup → (∀ k, k ∈ ys ↔ k ∈ xs) → ys.length ≤ xs.length → Q (.ref p) s') :
    wpAny (model P w) A (call (.builtin "sorted") [.ref a]) Q E s := by
  obtain ⟨S, n, ⟨o, es, ep, t, ho, hx, hd, g, nd, hm, hb, hf, hn, hr, hl⟩, hle, hS⟩ := R
  refine Calls.call_function_entry kind_sorted plain_sorted entry_sorted (args_sorted1 _) ?_
  unfold Builtin.«sorted»
  refine wpAny_bind (m := checkCount "sorted" 1 1 _) (wpAny_pure ?_)
  refine wpAny_bind (collect_set (A := A.in1) hh ⟨o, ho, hx.1, hd⟩ hf hb hr hl fun s1 vs k1 hz g1 o1 pm => ?_)
  have vl : vs.length = n := by rw [pm.length_eq, List.length_map, Array.length_toList]; exact hn
  have v64 : vs.length < 64 := by omega
  have hI : StrsAre vs (vs.map fun v => match v with | .str z _ => z | _ => Str.empty) := goodT_strs vs fun v hv => by
    obtain ⟨e, he, q⟩ := List.mem_map.mp (pm.mem_iff.mp hv)
    obtain ⟨z, tk, h1, _⟩ := g e he
    exact ⟨z, tk, by rw [← q]; exact h1⟩
  have pk : (vs.map fun v => match v with | .str z _ => z | _ => Str.empty).Perm (es.toList.map txtOf) := by
    have q := pm.map fun v : Value => match v with | .str z _ => z | _ => Str.empty
    rw [List.map_map] at q
    exact q
  refine wpAny_bind (wpAny_newList ?_ (by rw [sizeLine_eq]; omega))
  have hoL : (s1.heap.push (seqObj "list" vs.toArray 0)).get? s1.heap.objs.size = some (seqObj "list" vs.toArray 0) := Heap.get?_push_size _ rfl
  refine wpAny_bind (wpAny_holding (wpAny_call_entry slot_list_sort ⟨_, hoL, rfl⟩ entry_list_sort
    (list_sort_treeK strKind_oneLt hoL hI.keysOf (fun v₁ v₂ rest e => keyKind_strs (by rw [← e]; exact hI)) v64 fun st' hp hs => ?_) (args_list_sort _)))
  obtain ⟨ys, q1, q2, q3⟩ := sorted_out_str hI hp hs
  obtain ⟨c, hc⟩ := sortedHeap_at (vs := vs) (out := (arrOf st').map (·.2)) hoL
  have pn : ys.Perm (es.toList.map txtOf) := q2.trans pk
  refine ⟨_, rfl, wpAny_pure ⟨_, rfl, hQ _ s1.heap.objs.size _ c ys (fun b u e => ?_) g1 o1 hz hc q1 q3 (pn.nodup_iff.mpr nd) (fun k => by rw [pn.mem_iff, ← hm k, hS k]) ?_⟩⟩
  · have q := k1 b u e
    have lt := Heap.lt_size q
    show (sortedHeap (s1.heap.push (seqObj "list" vs.toArray 0)) s1.heap.objs.size vs _).get? b = some u
    rw [sortedHeap_old (Nat.ne_of_lt lt) (by rw [size_push']; exact Nat.lt_succ_of_lt lt)]
    exact Heap.get?_push_of_some _ q
  · rw [pn.length_eq, List.length_map, Array.length_toList, hn]
    exact hle
end
/-! ### as rules -/
def SetXO (P : Program) (w : World) (a : Addr) (xs : List Str) : HO := .ext fun h => SetX P w h a xs
section
variable {X : Cx}
theorem setXO_ok {P : Program} {w : World} {H : Hp} {h : Heap} {a : Addr} {xs : List Str} (R : SetX P w h a xs) : ObjOk P w H h a (SetXO P w a xs) := by
  have ⟨_, _, ⟨o, _, _, _, ho, _⟩, _⟩ := R
  exact ⟨R, ⟨o, ho⟩, fun h1 h2 p k => SetX.keep p fun o z => k o z⟩
/-- set(xs), xs a list of texts -/
def rSetTxt (K : PySem.W.Frag) (P : Program) (w : World) : List V → Hp → VK → Prop := fun vs H Q => ∃ (l : Addr) (xs : List Str), vs = [V.ref l] ∧ SqL K H l (xs.map V.str) ∧ xs.length < 1000 ∧ ∀ a, H a = none → Q (.ref a) (upd H a (SetXO P w a xs))
theorem cr_setTxt (hc : X.calm = true) : CallR X (.type "set") (rSetTxt X.K X.prog X.w) := by
  intro pins s σ H vs us Q I r h
  obtain ⟨l, xs, rfl, hl, hn, q⟩ := h
  rw [Vals.ref1 r]
  obtain ⟨its, rv, pl, hz⟩ := I.list hl
  have fr : H s.heap.objs.size = none := I.hok.fresh (Nat.le_refl _)
  refine call_set_txt (P := X.prog) (w := X.w) (I.ok.hd hc) pl.isList (by simpa using rv.strs) hn fun h' tk R k => ?_
  exact ⟨.ref s.heap.objs.size, upd H s.heap.objs.size (SetXO X.prog X.w s.heap.objs.size xs), I.laid (t' := tk) (fun b u e => k b u (Heap.lt_size e) e) (Nat.le_refl _) (setXO_ok R), rfl, q _ fr⟩
/-- sorted(s), s a set of texts -/
def rSortedTxt (P : Program) (w : World) : List V → Hp → VK → Prop := fun vs H Q => ∃ (a : Addr) (xs : List Str), vs = [V.ref a] ∧ H a = some (SetXO P w a xs) ∧ xs.length < 64 ∧
  ∀ (ys : List Str) (p : Addr), sortedS ys = true → ys.Nodup → (∀ k, k ∈ ys ↔ k ∈ xs) → H p = none → Q (.ref p) (upd H p (.lst (ys.map V.str)))
theorem cr_sortedTxt (hc : X.calm = true) : CallR X (.builtin "sorted") (rSortedTxt X.prog X.w) := by
  intro pins s σ H vs us Q I r h
  obtain ⟨a, xs, rfl, ha, h64, q⟩ := h
  have R : SetX X.prog X.w s.heap a xs := (show ObjOk X.prog X.w H s.heap a (SetXO X.prog X.w a xs) from I.hok a _ ha).1
  rw [Vals.ref1 r]
  refine sorted_txt R (I.ok.hd hc) h64 fun s' p out c ys k g o hp hg h1 h2 h3 h4 h5 => ?_
  have len : (ys.map V.str).length ≤ sizeLine := by rw [List.length_map, sizeLine_eq]; omega
  have fr : H p = none := I.hok.fresh hp
  have J : Inv X pins σ (upd H p (.lst (ys.map V.str))) { s with heap := s'.heap, gens := s'.gens, drawn := s'.drawn, toks := s'.toks } :=
    I.call (ch := []) (Un.laid k hp fr) (I.hok.laid k hp ⟨len, out.toList, c, vals_of_strs h1, hg⟩) (by rw [g]; exact I.bare) (fun _ z => nomatch z)
  have e : s' = { s with heap := s'.heap, gens := s'.gens, drawn := s'.drawn, toks := s'.toks } := by
    cases s'; cases s; cases o; rfl
  rw [e]
  exact ⟨.ref p, _, J, rfl, q ys p h2 h3 h4 fr⟩
theorem nodup_len : ∀ (l ys : List Str), l.Nodup → (∀ k ∈ l, k ∈ ys) → l.length ≤ ys.length
  | [], _, _, _ => Nat.zero_le _
  | x :: l, ys, nd, h => by
    have nd := List.nodup_cons.mp nd
    have hx := h x List.mem_cons_self
    have q := nodup_len l (ys.erase x) nd.2 fun k hk => (List.mem_erase_of_ne (fun e : k = x => nd.1 (by rw [← e]; exact hk))).mpr (h k (List.mem_cons_of_mem _ hk))
    rw [List.length_erase_of_mem hx] at q
    have : 0 < ys.length := List.length_pos_of_mem hx
    rw [List.length_cons]
    omega
theorem SetX.swap {P : Program} {w : World} {h : Heap} {a : Addr} {xs ys : List Str} (R : SetX P w h a xs) (hm : ∀ k, k ∈ ys ↔ k ∈ xs) : SetX P w h a ys := by
  obtain ⟨S, n, T, hle, hS⟩ := R
  refine ⟨S, n, T, ?_, fun k => (hS k).trans (hm k).symm⟩
  obtain ⟨o, es, ep, t, ho, hx, hd, g, nd, hms, hb, hf, hn, hr, hl⟩ := T
  have := nodup_len _ ys nd fun k hk => (hm k).mpr ((hS k).mp ((hms k).mpr hk))
  rw [List.length_map, Array.length_toList, hn] at this
  exact this
/-- few unlike ones -/
def Few (xs : List Str) : Prop := xs.length < 1000 ∧ ∃ g : List Str, g.length < 64 ∧ ∀ k, k ∈ g ↔ k ∈ xs
theorem few_of {xs : List Str} (h : xs.length < 64) : Few xs := ⟨by omega, xs, h, fun _ => Iff.rfl⟩
/-- sorted(s), s a set of few texts -/
def rSortedFew (P : Program) (w : World) : List V → Hp → VK → Prop := fun vs H Q => ∃ (a : Addr) (xs : List Str), vs = [V.ref a] ∧ H a = some (SetXO P w a xs) ∧ Few xs ∧
  ∀ (ys : List Str) (p : Addr), sortedS ys = true → ys.Nodup → (∀ k, k ∈ ys ↔ k ∈ xs) → H p = none → Q (.ref p) (upd H p (.lst (ys.map V.str)))
theorem cr_sortedFew (hc : X.calm = true) : CallR X (.builtin "sorted") (rSortedFew X.prog X.w) := by
  intro pins s σ H vs us Q I r h
  obtain ⟨a, xs, rfl, ha, ⟨_, gx, g64, gm⟩, q⟩ := h
  have R : SetX X.prog X.w s.heap a gx := (show ObjOk X.prog X.w H s.heap a (SetXO X.prog X.w a xs) from I.hok a _ ha).1.swap gm
  rw [Vals.ref1 r]
  refine sorted_txt R (I.ok.hd hc) g64 fun s' p out c ys k g o hp hg h1 h2 h3 h4 h5 => ?_
  have len : (ys.map V.str).length ≤ sizeLine := by rw [List.length_map, sizeLine_eq]; omega
  have fr : H p = none := I.hok.fresh hp
  have J : Inv X pins σ (upd H p (.lst (ys.map V.str))) { s with heap := s'.heap, gens := s'.gens, drawn := s'.drawn, toks := s'.toks } :=
    I.call (ch := []) (Un.laid k hp fr) (I.hok.laid k hp ⟨len, out.toList, c, vals_of_strs h1, hg⟩) (by rw [g]; exact I.bare) (fun _ z => nomatch z)
  have e : s' = { s with heap := s'.heap, gens := s'.gens, drawn := s'.drawn, toks := s'.toks } := by
    cases s'; cases s; cases o; rfl
  rw [e]
  exact ⟨.ref p, _, J, rfl, q ys p h2 h3 (fun k => (h4 k).trans (gm k)) fr⟩
end
end Ly
end
section
set_option Elab.async false
set_option linter.all false
set_option maxRecDepth 100000
set_option maxHeartbeats 4000000
/-! set(d), d a dict whose keys are texts. -/
namespace Ly
open PySem PySem.Spec PyProof.Rows L2
theorem sub_dict_set : isSubtype (.type "dict") (.type "set") = pure false := by rw [isSubtype_type]; kernel_rfl
theorem sub_dict_frozenset : isSubtype (.type "dict") (.type "frozenset") = pure false := by rw [isSubtype_type]; kernel_rfl
theorem relaid_none (t : SetTable) (wanted : Nat) : ∃ u, SetTable.relaid t #[] wanted = some (u, #[]) ∧ u.place = #[] ∧ u.dummies = #[] ∧ u.led = t.led := by
  have e1 : ∀ mask, SetTable.layClean mask #[] = some (Array.replicate (mask + 1) none) := fun mask => by
    simp [SetTable.layClean]
  have e2 : ∀ mask, ((List.range (mask + 1)).filterMap fun j => ((Array.replicate (mask + 1) (none : Option Nat)).getD j none).map (j, ·)) = [] := fun mask => by
    rw [List.filterMap_eq_nil_iff]
    intro j _
    simp [Array.getD_eq_getD_getElem?, Array.getElem?_replicate]
    split <;> rfl
  unfold SetTable.relaid SetTable.laid
  rw [e1]
  dsimp only [Option.bind, bind]
  rw [e2]
  exact ⟨_, rfl, rfl, rfl, rfl⟩
section
variable {P : Program} {w : World} {A : Around} {E : Value → Shared → Prop} {s : Shared}
def fset (ld : Bool) : Obj := { cls := .type "set", dict := none, data := .set #[] 0 (.fresh 0 0 ld) }
theorem setX_fset {h : Heap} {S : Addr} {ld : Bool} (hS : h.get? S = some (fset ld)) (hl : w.params.followText "set-order" = true ∨ ld = true) : SetX P w h S [] :=
  ⟨fun _ => false, 0, ⟨_, #[], 0, _, hS, ⟨rfl, rfl, rfl⟩, rfl, (fun e he => by simp at he), (by simp), (fun k => by simp), (by decide), (by rfl), rfl, List.Pairwise.nil, hl⟩, Nat.le_refl 0, fun k => by simp⟩
theorem above_ok : ∀ n : Fin 101, SetTable.sizeAbove ((0 + n.1) * 2) ≤ 16777216 := by decide +kernel
theorem room_fset {S n : Nat} {ld : Bool} {Q : Unit → Shared → Prop} (hn : n ≤ 100) (hS : s.heap.get? S = some (fset ld)) (hl : w.params.followText "set-order" = true ∨ ld = true)
    (hQ : ∀ h', Heap.SameBut S s.heap h' → SetX P w h' S [] → Q () { s with heap := h' }) : wpAny (model P w) A (setRoomFor S n) Q E s := by
  unfold setRoomFor
  refine wpAny_bind (wpAny_setState_of hS rfl (by rfl) ?_)
  dsimp only
  split
  · rename_i wanted hw
    have ew : wanted = (0 + n) * 2 := by
      have hw : (if (0 + n) * 5 ≥ 7 * 3 then some ((0 + n) * 2) else none) = some wanted := hw
      split at hw
      · exact (Option.some.inj hw).symm
      · cases hw
    subst ew
    unfold setRelay
    refine wpAny_bind (wpAny_setState_of hS rfl (by rfl) ?_)
    dsimp only
    have ha := above_ok ⟨n, by omega⟩
    rw [if_neg (by rw [sizeLine_eq]; exact Nat.not_lt.mpr ha)]
    obtain ⟨u, e, h1, h2, h3⟩ := relaid_none (.fresh 0 0 ld) ((0 + n) * 2)
    refine wpAny_bind ?_
    have e0 : (Array.map (fun x : Int × Value => x.1) #[]) = (#[] : Array Int) := by simp
    rw [e0, e]
    change wpAny _ _ (pure ((#[] : Array (Int × Value)), u)) _ _ _
    refine wpAny_pure ?_
    dsimp only
    refine wpAny_storeSet_of hS rfl ?_ (by size_fits)
    have ho1 := store_at (es' := #[]) (t' := u) hS rfl
    refine hQ _ (Heap.SameBut.update s.heap S (Obj.putSet #[] u)) ⟨fun _ => false, 0, ⟨_, #[], _, u, ho1, ⟨rfl, rfl, rfl⟩, rfl, (fun e he => by simp at he), (by simp), (fun k => by simp), (by decide), ?_, rfl, ?_, ?_⟩, Nat.le_refl 0, fun k => by simp⟩
    · unfold SetTable.fits SetTable.fill
      rw [h1, h2]
      simp
    · rw [h1]; exact List.Pairwise.nil
    · rw [h3]; exact hl
  · exact wpAny_pure (hQ _ (Heap.SameBut.refl S s.heap) (setX_fset hS hl))
theorem upd_dict {S d : Addr} {ld : Bool} {kvs : List (Key × Value)} {xs : List Str} {Q : Unit → Shared → Prop} (hS : s.heap.get? S = some (fset ld)) (hl : w.params.followText "set-order" = true ∨ ld = true) (hd : s.heap.DictOf (mixKind P w) d kvs) (hne : d ≠ S) (hk : kvs.map (·.1) = xs.map Sum.inr) (hn : xs.length ≤ 100) (lo : (d == sysModules) = false)
    (hQ : ∀ h', Heap.SameBut S s.heap h' → SetX P w h' S xs → Q () { s with heap := h' }) : wpAny (model P w) A (Builtin.Frozenset.updateFrom "set.__init__" S (.ref d)) Q E s := by
  obtain ⟨od, es, ep, hod, hx, hdd, hko, hpo, hno⟩ := hd
  have e1 := sub_dict_set
  have e2 := sub_dict_frozenset
  have hT : Shared.TypeIs s (.ref d) "dict" := ⟨od, hod, hx.1⟩
  have hes : es.size = xs.length := by
    have := congrArg List.length hk
    rw [List.length_map, List.length_map] at this
    rw [← this, ← hpo.length, Array.length_toList]
  have hkv : kvs.length = xs.length := by rw [← hpo.length, Array.length_toList]; exact hes
  unfold Builtin.Frozenset.updateFrom Builtin.Frozenset.isAnySet
  wp_walk
  rw [hdd]
  refine wpAny_pure ?_
  refine wpAny_bind (wpAny_dictEntries hod hdd ?_)
  refine wpAny_bind (room_fset (by rw [hes]; exact hn) hS hl fun h1 sb1 X1 => ?_)
  have hod1 : h1.get? d = some od := (sb1.2 d hne).trans hod
  refine wpAny_bind (wpAny_dictEntries hod1 hdd ?_)
  refine wpAny_bind ?_
  rw [Std.Legacy.Range.forIn_eq_forIn_range']
  simp only [Std.Legacy.Range.size, Nat.sub_zero, Nat.add_sub_cancel, Nat.div_one]
  refine wpAny_forIn_list _
    (fun rest _ s' => ∃ h' i, s' = { s with heap := h' } ∧ rest = List.range' i (es.size - i) ∧ i ≤ es.size ∧ SetX P w h' S (xs.take i) ∧ h'.get? d = some od ∧ Heap.SameBut S s.heap h')
    _ ?_ ?_ _ _ ⟨h1, 0, rfl, by simp, Nat.zero_le _, by rw [List.take_zero]; exact X1, hod1, sb1⟩
  · rintro x rest b s' ⟨h', i, rfl, hr, hi, hX, hoo', hs'⟩
    have hlt : i < es.size := by
      rcases Nat.lt_or_ge i es.size with h | h
      · exact h
      · rw [Nat.sub_eq_zero_of_le h] at hr; simp at hr
    obtain ⟨rfl, hrest⟩ : x = i ∧ rest = List.range' (i + 1) (es.size - (i + 1)) := by
      have e : es.size - i = (es.size - (i + 1)) + 1 := by omega
      rw [e, List.range'_succ] at hr
      injection hr with h1 h2
      exact ⟨h1, h2⟩
    refine wpAny_bind (wpAny_dictEntries hoo' hdd ?_)
    rw [Array.getElem?_eq_getElem hlt]
    have hlk : x < kvs.length := by omega
    obtain ⟨kv, hkv2⟩ : ∃ kv, kvs[x]? = some kv := ⟨kvs[x], List.getElem?_eq_getElem hlk⟩
    obtain ⟨k, v⟩ := kv
    obtain ⟨hkey, _⟩ := hpo.get? (e := es[x]) (by simp [hlt]) hkv2
    obtain ⟨k', hkey', hhash⟩ := hko es[x] (Array.getElem_mem hlt)
    obtain rfl : k' = k := (mixKind P w).inj _ _ _ hkey' hkey
    have ek : xs[x]?.map Sum.inr = some k' := by
      have : (kvs.map (·.1))[x]? = (xs.map Sum.inr)[x]? := by rw [hk]
      rw [List.getElem?_map, List.getElem?_map, hkv2] at this
      exact this.symm
    have hlx : x < xs.length := by omega
    rw [List.getElem?_eq_getElem hlx] at ek
    obtain rfl : Sum.inr xs[x] = k' := Option.some.inj ek
    obtain ⟨i2, t, e3, e4⟩ | ⟨z, t, e3, e4⟩ := keyIs_shape (show keyIs (Sum.inr xs[x]) es[x].key = true from hkey)
    · cases e3
    · cases e3
      show wpAny _ _ (holding [es[x].key] (setAddHashed S es[x].key es[x].hash) >>= _) _ _ _
      rw [hhash, e4]
      obtain ⟨S0, m, hT0, hm, hS1⟩ := hX
      have lm : m ≤ x := Nat.le_trans hm (by rw [List.length_take]; exact Nat.min_le_left _ _)
      refine wpAny_bind (wpAny_holding (setT_add (s := { s with heap := h' }) (k := xs[x]) (tk := t) hT0 (by unfold scanBound; omega) fun h'' sb hT2 => ?_))
      have hoo'' : h''.get? d = some od := (sb.2 d hne).trans hoo'
      refine wpAny_bind (wpAny_dictEpoch hoo'' hdd ?_)
      rw [if_neg (by simp)]
      refine wpAny_pure ⟨h'', x + 1, rfl, hrest, hlt, ⟨_, _, hT2, ?_, fun k' => ?_⟩, hoo'', hs'.trans sb⟩
      · rw [List.length_take]
        split <;> omega
      · rw [List.take_succ, List.getElem?_eq_getElem hlx, Bool.or_eq_true, decide_eq_true_eq, hS1 k', List.mem_append]
        exact or_congr Iff.rfl List.mem_singleton.symm
  · rintro b s' ⟨h', i, rfl, hr, hi, hX, hoo', hs'⟩
    have hin : i = es.size := by
      rcases Nat.lt_or_ge i es.size with h | h
      · have e : es.size - i = (es.size - (i + 1)) + 1 := by omega
        rw [e, List.range'_succ] at hr; exact nomatch hr
      · exact Nat.le_antisymm hi h
    refine wpAny_pure (hQ h' hs' ?_)
    rw [hin, hes, List.take_length] at hX
    exact hX
set_option maxHeartbeats 3200000 in
theorem call_set_dict {d : Addr} {kvs : List (Key × Value)} {xs : List Str} {Q : Value → Shared → Prop} (hh : A.handled = none) (hd : s.heap.DictOf (mixKind P w) d kvs) (lo : (d == sysModules) = false) (hk : kvs.map (·.1) = xs.map Sum.inr) (hn : xs.length ≤ 100)
    (h : ∀ (h' : Heap), SetX P w h' s.heap.objs.size xs → (∀ b o, b < s.heap.objs.size → s.heap.get? b = some o → h'.get? b = some o) → Q (.ref s.heap.objs.size) { s with heap := h' }) :
    wpAny (model P w) A (call (.type "set") [.ref d]) Q E s := by
  obtain ⟨c, tl, cmro⟩ := PySem.F.called_set.mro
  have cmade := PySem.F.called_set.made
  have csub := PySem.F.called_set.sub
  refine wpAny_call (codeAny_of_tree ?_)
  show wpAny _ _ (callAny (.type "set") _) _ _ _
  refine wpAny_pure ⟨Code.quiet_builtin _ (by decide +kernel), codeAny_builtin PySem.F.entry_type_call ?_⟩
  rw [Around.under_plain (weight_type_call_type "set" [.ref d] []) rfl]
  have c1 := PySem.F.called_set.notType
  have c2 := PySem.F.called_set.canCreate
  have c3 := PySem.F.typeCall_set_1 (.ref d)
  repeat (any_goals (first | assumption | wp_step))
  refine codeAny_mono (code_set1 (.ref d) (E := E) (Q₁ := fun ob s1 => ob = .ref s.heap.objs.size ∧ s1 = { s with heap := s.heap.push (fset (!w.params.followText "set-order")) }) ⟨rfl, rfl⟩) fun r s1 hr => ?_
  cases r with
  | error e => exact hr
  | ok fl =>
    cases fl with
    | ret ob =>
      obtain ⟨rfl, rfl⟩ := hr
      have hl : w.params.followText "set-order" = true ∨ (!w.params.followText "set-order") = true := by
        cases w.params.followText "set-order"
        · exact .inr rfl
        · exact .inl rfl
      generalize (!w.params.followText "set-order") = ld at hl ⊢
      have hS : (s.heap.push (fset ld)).get? s.heap.objs.size = some (fset ld) := Heap.get?_push_size _ rfl
      have hT : Shared.TypeIs { s with heap := s.heap.push (fset ld) } (.ref s.heap.objs.size) "set" := ⟨_, hS, rfl⟩
      have d1 := PySem.F.called_set.init.lookup
      have d2 := PySem.F.called_set.init.bind (.ref s.heap.objs.size)
      repeat (any_goals (first | assumption | wp_step))
      refine codeAny_mono (codeAny_call_builtin (R := wants (fun r s2 => r = .none ∧ ∃ h', s2 = { s with heap := h' } ∧ SetX P w h' s.heap.objs.size xs ∧ (∀ b o, b < s.heap.objs.size → s.heap.get? b = some o → h'.get? b = some o)) E)
        PySem.F.called_set.init.plain PySem.F.entry_set_init (check_set_init_1 hT ?_)) fun r2 s2 hr2 => ?_
      · have hd2 : (s.heap.push (fset ld)).DictOf (mixKind P w) d kvs := by
          obtain ⟨od, es, ep, hod, r⟩ := hd
          exact ⟨od, es, ep, Heap.get?_push_of_some _ hod, r⟩
        have ne : d ≠ s.heap.objs.size := by
          obtain ⟨od, es, ep, hod, r⟩ := hd
          exact Nat.ne_of_lt (Heap.lt_size hod)
        unfold Builtin.«set.__init__» noKeywords
        generalize hU : Builtin.Frozenset.updateFrom = U
        wp_walk
        subst hU
        refine upd_dict hS hl hd2 ne hk hn lo fun h' sb X => ?_
        dsimp only
        refine wpAny_pure ⟨rfl, h', rfl, X, fun b o hb e => ?_⟩
        have b1 : b ≠ s.heap.objs.size := Nat.ne_of_lt hb
        exact (sb.2 b b1).trans (Heap.get?_push_of_some _ e)
      · cases r2 with
        | error e => exact hr2
        | ok fl2 =>
          cases fl2 with
          | ret r =>
            obtain ⟨rfl, h', rfl, hS', hk'⟩ := hr2
            repeat (any_goals (first | assumption | wp_step))
            exact h _ hS' hk'
          | _ => exact hr2.elim
    | _ => exact hr.elim
end
section
variable {X : Cx}
/-- set(d), d a dict of texts -/
def rSetDict (P : Program) (w : World) : List V → Hp → VK → Prop := fun vs H Q => ∃ (l : Addr) (kvs : List (Key × V)) (xs : List Str), vs = [V.ref l] ∧ Rd H l (.dK kvs) ∧ kvs.map (·.1) = xs.map Sum.inr ∧ xs.length ≤ 100 ∧ ∀ a, H a = none → Q (.ref a) (upd H a (SetXO P w a xs))
theorem cr_setDict (hc : X.calm = true) : CallR X (.type "set") (rSetDict X.prog X.w) := by
  intro pins s σ H vs us Q I r h
  obtain ⟨l, kvs, xs, rfl, hl, hk, hn, q⟩ := h
  rw [Vals.ref1 r]
  obtain ⟨z, lo, ws, rel, dd⟩ := dk_rd I.hok hl
  have fr : H s.heap.objs.size = none := I.hok.fresh (Nat.le_refl _)
  have ek : ws.map (·.1) = xs.map Sum.inr := by rw [← hk]; exact (KV.keys rel).symm
  refine call_set_dict (P := X.prog) (w := X.w) (I.ok.hd hc) dd lo ek hn fun h' R k => ?_
  exact ⟨.ref s.heap.objs.size, upd H s.heap.objs.size (SetXO X.prog X.w s.heap.objs.size xs), I.laid (t' := s.toks) (fun b u e => k b u (Heap.lt_size e) e) (Nat.le_refl _) (setXO_ok R), rfl, q _ fr⟩
theorem cr_setDictP {P : Program} {w : World} (hc : X.calm = true) (hp : X.prog = P) (hw : X.w = w) : CallR X (.type "set") (rSetDict P w) := by
  subst hp hw
  exact cr_setDict hc
end
end Ly
end
section
set_option Elab.async false
set_option linter.all false
set_option maxRecDepth 100000
/-! Program.__init__, read, __str__. -/
namespace Ly
open PySem PySem.Spec PyProof.Rows L2
structure PgC (K : PySem.W.Frag) (mg : Str → Option Value) (C : Addr) : Prop where
  cl : Cls K C
  g : mg "Program" = some (.ref C)
  r : NoAttr K C "rows"
  js : NoAttr K C "job_steps"
  ws : NoAttr K C "walk_steps"
  j : NoAttr K C "jobs"
  w : NoAttr K C "walks"
  ga : NoAttr K C "gates"
theorem RR.other {CR CS : Addr} {H0 H : Hp} {L : Lay} {st : RS} {T : Nat} {p : Addr} {o0 o : HO} (R : RR CR CS H0 H L st T) (hp : H0 p = some o0) : RR CR CS (del H0 p) (upd H p o) L st T := by
  have ap : ∀ b, Foot L st.ns.length b → b ≠ p := fun b f z => by
    have e := R.fresh b f
    rw [z, hp] at e
    cases e
  exact { R with
    ob := let ⟨dx, e⟩ := R.ob; ⟨dx, by rw [upd_ne (ap _ .r)]; exact e⟩
    jobs := by rw [upd_ne (ap _ .jd)]; exact R.jobs
    walks := by rw [upd_ne (ap _ .wd)]; exact R.walks
    lst := fun x h => by rw [upd_ne (ap _ (.la x h))]; exact R.lst x h
    nod := fun i h => let ⟨dx, e⟩ := R.nod i h; ⟨dx, by rw [upd_ne (ap _ (.oa i h))]; exact e⟩
    base := fun b u e => by
      by_cases hb : b = p
      · rw [hb, del_same] at e
        cases e
      · rw [del_ne hb] at e
        rw [upd_ne hb]
        exact R.base b u e
    fresh := fun b f => by rw [del_ne (ap b f)]; exact R.fresh b f }
/-- .. and again, where it is let go of already -/
theorem RR.again {CR CS : Addr} {H0 H : Hp} {L : Lay} {st : RS} {T : Nat} {p : Addr} {o : HO} (R : RR CR CS H0 H L st T) (hp : H0 p = none) (ap : ∀ b, Foot L st.ns.length b → b ≠ p) : RR CR CS H0 (upd H p o) L st T :=
  { R with
    ob := let ⟨dx, e⟩ := R.ob; ⟨dx, by rw [upd_ne (ap _ .r)]; exact e⟩
    jobs := by rw [upd_ne (ap _ .jd)]; exact R.jobs
    walks := by rw [upd_ne (ap _ .wd)]; exact R.walks
    lst := fun x h => by rw [upd_ne (ap _ (.la x h))]; exact R.lst x h
    nod := fun i h => let ⟨dx, e⟩ := R.nod i h; ⟨dx, by rw [upd_ne (ap _ (.oa i h))]; exact e⟩
    base := fun b u e => by rw [upd_ne fun z => by rw [z, hp] at e; cases e]; exact R.base b u e }
/-- kept, but for p -/
def Kp (p : Addr) (H H' : Hp) : Prop := ∀ b o, H b = some o → b ≠ p → H' b = some o
theorem Kp.of {p : Addr} {H H' : Hp} (s : Same H H') : Kp p H H' := fun b o e _ => s b o e
theorem Kp.at {p : Addr} {H H' : Hp} (s : Same H H') (o : HO) : Kp p H (upd H' p o) := fun b u e n => by rw [upd_ne n]; exact s b u e
theorem Kp.trans {p : Addr} {H H1 H2 : Hp} (a : Kp p H H1) (b : Kp p H1 H2) : Kp p H H2 := fun c o e n => b c o (a c o e n) n
theorem Kp.seqT {K : PySem.W.Frag} {p a C dx : Addr} {H H' : Hp} {fs : List (Str × V)} {xs : List V} (k : Kp p H H') (hp : H p = some (.ins C dx fs)) (h : SqT K H a xs) : SqT K H' a xs := by
  rcases h with (h | ⟨o, h⟩) | h
  · exact .inl (.inl (k _ _ h (ne_of h hp (by intro z; cases z))))
  · exact .inl (.inr ⟨o, k _ _ h (ne_of h hp (by intro z; cases z))⟩)
  · exact .inr h
def pflds (L : Lay) (ra ja wa ga : Addr) : List (Str × V) := [("rows", .ref ra), ("job_steps", .ref L.jd), ("walk_steps", .ref L.wd), ("jobs", .ref ja), ("walks", .ref wa), ("gates", .ref ga)]
/-- a program as it stands at p: its rows, the reader's state -/
structure PgAt (K : PySem.W.Frag) (CP CR CS : Addr) (H : Hp) (p : Addr) (rows : List Str) (st : RS) (L : Lay) (js ws gs : List Str) (T : Nat) : Prop where
  at_ : ∃ dx ra ja wa ga, H p = some (.ins CP dx (pflds L ra ja wa ga)) ∧ SqT K H ra (rows.map V.str) ∧ SqT K H ja (js.map V.str) ∧ SqT K H wa (ws.map V.str) ∧ SqT K H ga (gs.map V.str)
  rd : ∃ H0, RR CR CS H0 H L st T ∧ H0 p = none ∧ ∀ b, Foot L st.ns.length b → b ≠ p
  js : sortedS js = true ∧ js.Nodup ∧ ∀ k, k ∈ js ↔ k ∈ st.jobs.map (·.1)
  ws : sortedS ws = true ∧ ws.Nodup ∧ ∀ k, k ∈ ws ↔ k ∈ st.walks.map (·.1)
  gs : sortedS gs = true ∧ gs.Nodup ∧ ∀ k, k ∈ gs ↔ k ∈ st.gates
theorem few_ok {rows : List Str} {st : RS} (h : readM rows = .ok st) : st.jobs.length ≤ 6 ∧ st.walks.length ≤ 6 := by
  have key : ∀ {st' : RS} {n : Nat}, endRows st' n = .ok st → st.jobs.length ≤ 6 ∧ st.walks.length ≤ 6 := fun {st' n} e => by
    unfold endRows at e
    split at e
    · cases e
    · split at e
      · cases e
      · split at e
        · cases e
        · rename_i hl
          have e' : st' = st := Except.ok.inj e
          subst e'
          unfold limitsM at hl
          repeat' split at hl
          all_goals first
            | (cases hl; done)
            | omega
  unfold readM at h
  split at h
  · cases h
  · exact key h
theorem keysI (L : Lay) (js : List (Str × Nat)) : (kvsN L js).map (·.1) = (js.map (·.1)).map Sum.inr := by
  unfold kvsN
  rw [List.map_map, List.map_map]
  rfl
theorem keysN (L : Lay) (js : List (Str × Nat)) : (kvsN L js).map (fun kv => kV kv.1) = (js.map (·.1)).map V.str := by
  unfold kvsN
  rw [List.map_map, List.map_map]
  rfl
section
variable {P : Program} {w : World} {K : PySem.W.Frag} {mg : Str → Option Value} {base : Heap} {CP CR CS : Addr}
def spPInit (K : PySem.W.Frag) (CP CR CS CB CU CT : Addr) : Sp := fun vs H Q E => ∃ (p dx : Addr) (text : Str), vs = [.ref p, .str text] ∧ H p = some (.ins CP dx []) ∧ text.length ≤ 90000 ∧ (Txt.split text "\n").length ≤ 900 ∧
  (match readM (Txt.split text "\n") with
    | .ok st => Few st.gates ∧ ∀ H' L js ws gs T, Kp p H H' → PgAt K CP CR CS H' p (Txt.split text "\n") st L js ws gs T → Q .non H'
    | .error (.row i) => ∀ H', Kp p H H' → Out CB "at" (.int (i : Int)) H' E
    | .error (.unk z) => ∀ H', Kp p H H' → Out CU "name" (.str z) H' E
    | .error (.many z) => ∀ H', Kp p H H' → Out CT "word" (.str z) H' E)
theorem sc_PInit : FnScope ["self", "text", "reader"] ["self", "text"] (defScope t_Program_init) := ⟨rfl, rfl, rfl, by decide +kernel, rfl, by decide +kernel, by decide +kernel⟩
theorem ok_PInit {f CB CU CT fr : Addr} {fd dr : FuncData} (F : Fun K "__init__" "Program.__init__" t_Program_init f fd) (B : Bt mg) (G : PgC K mg CP) (R : RdC K mg CR) (GR : FnOk P w K mg base (L2.CX P w) 5 fr dr ["rows"] (spRows K CR CS CB CU CT))
    (aR : mg "read_rows" = some (.ref fr)) (kR : PySem.W.keepIn K (.ref fr) = true) (bR : Binds K dr ["rows"] []) :
    FnOk P w K mg base (L2.CX P w) 6 f fd ["self", "text"] (spPInit K CP CR CS CB CU CT) := by
  refine F.okX sc_PInit (fun vs H Q E h => ?_) (fun cdv A outer s H vs Q E hr h => ?_)
  · obtain ⟨p, dx, text, rfl, _⟩ := h
    rfl
  · obtain ⟨p, dx, text, rfl, hp, ht, hn, k⟩ := h
    have nod := sc_PInit.nd
    have hu := hu_of hr
    have tk : Takes (cxOf (L2.CX P w) P w K mg base ["self", "text", "reader"] "Program.__init__" (defScope t_Program_init) f cdv A outer s H E) (fun c d _ H => E c d H) := takes_of rfl rfl rfl rfl
    have ps := passes_call (E := E) tk (fun _ _ _ _ h => h)
    refine ⟨_, pss_cons (ps_fld (pv 0) (pe_callTy call_tuple_of rfl B.tuple (by decide +kernel) (pa_cons (pe_split (pv 1) pe_str) pa_nil)) rfl)
      (pss_cons (ps_set (i := 2) nod rfl (Or.inl rfl) (pe_call GR hr rfl aR kR bR .nil ps (pa_cons (pe_fld (pv 0) rfl) pa_nil)))
      (pss_cons (ps_fld (pv 0) (pe_fld (pv 2) rfl) rfl)
      (pss_cons (ps_fld (pv 0) (pe_fld (pv 2) rfl) rfl)
      (pss_cons (ps_fld (pv 0) (pe_callTy call_tuple_of rfl B.tuple (by decide +kernel) (pa_cons (pe_callB (cr_sortedTxt rfl) rfl B.sorted (by decide +kernel) (pa_cons (pe_callTy (cr_setDictP (P := P) (w := w) rfl rfl rfl) rfl B.set (by decide +kernel) (pa_cons (pe_fld (pv 2) rfl) pa_nil)) pa_nil)) pa_nil)) rfl)
      (pss_cons (ps_fld (pv 0) (pe_callTy call_tuple_of rfl B.tuple (by decide +kernel) (pa_cons (pe_callB (cr_sortedTxt rfl) rfl B.sorted (by decide +kernel) (pa_cons (pe_callTy (cr_setDictP (P := P) (w := w) rfl rfl rfl) rfl B.set (by decide +kernel) (pa_cons (pe_fld (pv 2) rfl) pa_nil)) pa_nil)) pa_nil)) rfl)
      (pss_one (ps_fld (pv 0) (pe_callTy call_tuple_of rfl B.tuple (by decide +kernel) (pa_cons (pe_callB (cr_sortedFew rfl) rfl B.sorted (by decide +kernel) (pa_cons (pe_callTy (cr_setTxt rfl) rfl B.set (by decide +kernel) (pa_cons (pe_fld (pv 2) rfl) pa_nil)) pa_nil)) pa_nil)) rfl))))))), ?_⟩
    refine ⟨_, rfl, ⟨_, rfl⟩, _, _, rfl, rfl, by decide +kernel, by rw [sizeLine_eq]; omega, fun l hl => ?_⟩
    refine ⟨l, _, rfl, .inl ⟨SqL.of upd_same, fun ra hra => ?_⟩⟩
    have s1 : Same H (upd (upd H l (.lst ((Txt.split text "\n").map V.str))) ra (.tup ((Txt.split text "\n").map V.str))) := (same_new hl).trans (same_new hra)
    have hra1 : upd (upd H l (.lst ((Txt.split text "\n").map V.str))) ra (.tup ((Txt.split text "\n").map V.str)) ra = some (.tup ((Txt.split text "\n").map V.str)) := upd_same
    generalize upd (upd H l (.lst ((Txt.split text "\n").map V.str))) ra (.tup ((Txt.split text "\n").map V.str)) = H1 at s1 hra1
    refine ⟨_, rfl, p, CP, dx, _, rfl, s1 _ _ hp, G.cl, G.r, by show 0 < 1000; decide, nx_mk ?_⟩
    have k2 : Kp p H (upd H1 p (.ins CP dx [("rows", .ref ra)])) := Kp.at s1 _
    have hp2 : upd H1 p (.ins CP dx [("rows", .ref ra)]) p = some (.ins CP dx [("rows", .ref ra)]) := upd_same
    have hq2 : SqT K (upd H1 p (.ins CP dx [("rows", .ref ra)])) ra ((Txt.split text "\n").map V.str) := (Kp.at (Same.refl H1) _).seqT (s1 _ _ hp) (SqT.of hra1)
    show tSeq _ _ _ _ (upd H1 p (.ins CP dx [("rows", .ref ra)]))
    generalize upd H1 p (.ins CP dx [("rows", .ref ra)]) = H2 at k2 hp2 hq2 ⊢
    refine ⟨_, rfl, p, CP, dx, _, _, rfl, hp2, G.cl, G.r, rfl, ?_⟩
    refine ⟨ra, _, rfl, hq2, hn, fun r hr => Nat.le_trans (part_short hr) ht, ?_⟩
    cases e : readM (Txt.split text "\n") with
    | error b =>
      rw [e] at k
      cases b with
      | row i => exact fun H' q => k H' (k2.trans (Kp.of q))
      | unk z => exact fun H' q => k H' (k2.trans (Kp.of q))
      | many z => exact fun H' q => k H' (k2.trans (Kp.of q))
    | ok st =>
      rw [e] at k
      obtain ⟨hg, k⟩ := k
      intro H3 L T s3 R3
      refine nx_of (nx_mk ?_)
      have ap : ∀ b, Foot L st.ns.length b → b ≠ p := fun b f z => by
        have e := R3.fresh b f
        rw [z, hp2] at e
        cases e
      have k3 : Kp p H H3 := k2.trans (Kp.of s3)
      have hp3 := s3 _ _ hp2
      have hq3 := same_t s3 hq2
      obtain ⟨d3, ob3⟩ := R3.ob
      refine ⟨_, rfl, L.r, CR, d3, _, _, rfl, ob3, R.cl, R.j, rfl, _, rfl, p, CP, dx, _, rfl, hp3, G.cl, G.js, by show 1 < 1000; decide, nx_mk ?_⟩
      have R4 := R3.other (o := .ins CP dx [("rows", .ref ra), ("job_steps", .ref L.jd)]) hp2
      have k4 : Kp p H (upd H3 p (.ins CP dx [("rows", .ref ra), ("job_steps", .ref L.jd)])) := k3.trans (Kp.at (Same.refl H3) _)
      have hp4 : upd H3 p (.ins CP dx [("rows", .ref ra), ("job_steps", .ref L.jd)]) p = _ := upd_same
      have hq4 : SqT K (upd H3 p (.ins CP dx [("rows", .ref ra), ("job_steps", .ref L.jd)])) ra ((Txt.split text "\n").map V.str) := (Kp.at (Same.refl H3) _).seqT hp3 hq3
      show tSeq _ _ _ _ (upd H3 p (.ins CP dx [("rows", .ref ra), ("job_steps", .ref L.jd)]))
      generalize upd H3 p (.ins CP dx [("rows", .ref ra), ("job_steps", .ref L.jd)]) = H4 at R4 k4 hp4 hq4 ⊢
      obtain ⟨d4, ob4⟩ := R4.ob
      refine ⟨_, rfl, L.r, CR, d4, _, _, rfl, ob4, R.cl, R.w, rfl, _, rfl, p, CP, dx, _, rfl, hp4, G.cl, G.ws, by show 2 < 1000; decide, nx_mk ?_⟩
      have R5 := R4.again (o := .ins CP dx [("rows", .ref ra), ("job_steps", .ref L.jd), ("walk_steps", .ref L.wd)]) del_same ap
      have k5 := k4.trans (Kp.at (Same.refl H4) (.ins CP dx [("rows", .ref ra), ("job_steps", .ref L.jd), ("walk_steps", .ref L.wd)]))
      have hq5 := (Kp.at (p := p) (Same.refl H4) (.ins CP dx [("rows", .ref ra), ("job_steps", .ref L.jd), ("walk_steps", .ref L.wd)])).seqT hp4 hq4
      have hp5 : upd H4 p (.ins CP dx [("rows", .ref ra), ("job_steps", .ref L.jd), ("walk_steps", .ref L.wd)]) p = _ := upd_same
      show tSeq _ _ _ _ (upd H4 p (.ins CP dx [("rows", .ref ra), ("job_steps", .ref L.jd), ("walk_steps", .ref L.wd)]))
      generalize upd H4 p (.ins CP dx [("rows", .ref ra), ("job_steps", .ref L.jd), ("walk_steps", .ref L.wd)]) = H5 at R5 k5 hp5 hq5 ⊢
      obtain ⟨d5, ob5⟩ := R5.ob
      refine ⟨_, rfl, L.r, CR, d5, _, _, rfl, ob5, R.cl, R.j, rfl, L.jd, _, st.jobs.map (·.1), rfl, Rd.of R5.jobs, keysI L st.jobs, ?_, fun l1 n1 => ?_⟩
      · obtain ⟨fj, fw⟩ := few_ok e
        rw [List.length_map]; omega
      obtain ⟨fj, fw⟩ := few_ok e
      -- jobs
      refine ⟨l1, st.jobs.map (·.1), rfl, upd_same, by rw [List.length_map]; omega, fun ys l2 sy ny my n2 => ?_⟩
      refine ⟨l2, _, rfl, .inl ⟨SqL.of upd_same, fun ja n3 => ?_⟩⟩
      have s6 := ((same_new (o := SetXO P w l1 (List.map (fun x : Str × Nat => x.fst) st.jobs)) n1).trans (same_new (o := .lst (ys.map V.str)) n2)).trans (same_new (o := .tup (ys.map V.str)) n3)
      have hj6 : upd (upd (upd H5 l1 (SetXO P w l1 (List.map (fun x : Str × Nat => x.fst) st.jobs))) l2 (.lst (ys.map V.str))) ja (.tup (ys.map V.str)) ja = some (.tup (ys.map V.str)) := upd_same
      show ∃ _, _ ∧ _
      generalize upd (upd (upd H5 l1 (SetXO P w l1 (List.map (fun x : Str × Nat => x.fst) st.jobs))) l2 (.lst (ys.map V.str))) ja (.tup (ys.map V.str)) = H6 at s6 hj6
      clear n1 n2 n3
      have hp6 := s6 _ _ hp5
      refine ⟨_, rfl, p, CP, dx, _, rfl, hp6, G.cl, G.j, by show 3 < 1000; decide, nx_mk ?_⟩
      have R7 := (R5.same s6).again (o := .ins CP dx [("rows", .ref ra), ("job_steps", .ref L.jd), ("walk_steps", .ref L.wd), ("jobs", .ref ja)]) del_same ap
      have k7 := (k5.trans (Kp.of s6)).trans (Kp.at (Same.refl H6) (.ins CP dx [("rows", .ref ra), ("job_steps", .ref L.jd), ("walk_steps", .ref L.wd), ("jobs", .ref ja)]))
      have kk := Kp.at (p := p) (Same.refl H6) (.ins CP dx [("rows", .ref ra), ("job_steps", .ref L.jd), ("walk_steps", .ref L.wd), ("jobs", .ref ja)])
      have hq7 := kk.seqT hp6 (same_t s6 hq5)
      have hj7 : SqT K _ ja (ys.map V.str) := kk.seqT hp6 (SqT.of hj6)
      have hp7 : upd H6 p (.ins CP dx [("rows", .ref ra), ("job_steps", .ref L.jd), ("walk_steps", .ref L.wd), ("jobs", .ref ja)]) p = _ := upd_same
      show tSeq _ _ _ _ (upd H6 p (.ins CP dx [("rows", .ref ra), ("job_steps", .ref L.jd), ("walk_steps", .ref L.wd), ("jobs", .ref ja)]))
      clear kk
      generalize upd H6 p (.ins CP dx [("rows", .ref ra), ("job_steps", .ref L.jd), ("walk_steps", .ref L.wd), ("jobs", .ref ja)]) = H7 at R7 k7 hp7 hq7 hj7 ⊢
      -- walks
      obtain ⟨d7, ob7⟩ := R7.ob
      refine ⟨_, rfl, L.r, CR, d7, _, _, rfl, ob7, R.cl, R.w, rfl, L.wd, _, st.walks.map (·.1), rfl, Rd.of R7.walks, keysI L st.walks, by rw [List.length_map]; omega, fun l3 n1 => ?_⟩
      refine ⟨l3, st.walks.map (·.1), rfl, upd_same, by rw [List.length_map]; omega, fun zs l4 sz nz mz n2 => ?_⟩
      refine ⟨l4, _, rfl, .inl ⟨SqL.of upd_same, fun wa n3 => ?_⟩⟩
      have s8 := ((same_new (o := SetXO P w l3 (List.map (fun x : Str × Nat => x.fst) st.walks)) n1).trans (same_new (o := .lst (zs.map V.str)) n2)).trans (same_new (o := .tup (zs.map V.str)) n3)
      have hw8 : upd (upd (upd H7 l3 (SetXO P w l3 (List.map (fun x : Str × Nat => x.fst) st.walks))) l4 (.lst (zs.map V.str))) wa (.tup (zs.map V.str)) wa = some (.tup (zs.map V.str)) := upd_same
      show ∃ _, _ ∧ _
      generalize upd (upd (upd H7 l3 (SetXO P w l3 (List.map (fun x : Str × Nat => x.fst) st.walks))) l4 (.lst (zs.map V.str))) wa (.tup (zs.map V.str)) = H8 at s8 hw8
      clear n1 n2 n3
      have hp8 := s8 _ _ hp7
      refine ⟨_, rfl, p, CP, dx, _, rfl, hp8, G.cl, G.w, by show 4 < 1000; decide, nx_mk ?_⟩
      have R9 := (R7.same s8).again (o := .ins CP dx [("rows", .ref ra), ("job_steps", .ref L.jd), ("walk_steps", .ref L.wd), ("jobs", .ref ja), ("walks", .ref wa)]) del_same ap
      have kk := Kp.at (p := p) (Same.refl H8) (.ins CP dx [("rows", .ref ra), ("job_steps", .ref L.jd), ("walk_steps", .ref L.wd), ("jobs", .ref ja), ("walks", .ref wa)])
      have k9 := (k7.trans (Kp.of s8)).trans kk
      have hq9 := kk.seqT hp8 (same_t s8 hq7)
      have hj9 := kk.seqT hp8 (same_t s8 hj7)
      have hw9 : SqT K _ wa (zs.map V.str) := kk.seqT hp8 (SqT.of hw8)
      have hp9 : upd H8 p (.ins CP dx [("rows", .ref ra), ("job_steps", .ref L.jd), ("walk_steps", .ref L.wd), ("jobs", .ref ja), ("walks", .ref wa)]) p = _ := upd_same
      show sFld _ _ _ _ _ _ (upd H8 p (.ins CP dx [("rows", .ref ra), ("job_steps", .ref L.jd), ("walk_steps", .ref L.wd), ("jobs", .ref ja), ("walks", .ref wa)]))
      clear kk
      generalize upd H8 p (.ins CP dx [("rows", .ref ra), ("job_steps", .ref L.jd), ("walk_steps", .ref L.wd), ("jobs", .ref ja), ("walks", .ref wa)]) = H9 at R9 k9 hp9 hq9 hj9 hw9 ⊢
      -- gates
      obtain ⟨d9, ob9⟩ := R9.ob
      refine ⟨_, rfl, L.r, CR, d9, _, _, rfl, ob9, R.cl, R.ga, rfl, L.la .g, st.gates, rfl, SqL.of (R9.lst .g trivial), hg.1, fun g1 n1 => ?_⟩
      refine ⟨g1, st.gates, rfl, upd_same, hg, fun gs g2 sg ng mg' n2 => ?_⟩
      refine ⟨g2, _, rfl, .inl ⟨SqL.of upd_same, fun ga n3 => ?_⟩⟩
      have s10 := ((same_new (o := SetXO P w g1 st.gates) n1).trans (same_new (o := .lst (gs.map V.str)) n2)).trans (same_new (o := .tup (gs.map V.str)) n3)
      have hg10 : upd (upd (upd H9 g1 (SetXO P w g1 st.gates)) g2 (.lst (gs.map V.str))) ga (.tup (gs.map V.str)) ga = some (.tup (gs.map V.str)) := upd_same
      have hp10 := s10 _ _ hp9
      refine ⟨_, rfl, p, CP, dx, _, rfl, hp10, G.cl, G.ga, by show 5 < 1000; decide, ?_⟩
      have kk := Kp.at (p := p) (Same.refl (upd (upd (upd H9 g1 (SetXO P w g1 st.gates)) g2 (.lst (gs.map V.str))) ga (.tup (gs.map V.str)))) (.ins CP dx (pflds L ra ja wa ga))
      exact k _ L ys zs gs T ((k9.trans (Kp.of s10)).trans kk) { at_ := ⟨dx, ra, ja, wa, ga, upd_same, (kk.seqT hp10 (same_t s10 hq9)), (kk.seqT hp10 (same_t s10 hj9)), (kk.seqT hp10 (same_t s10 hw9)), (kk.seqT hp10 (SqT.of hg10))⟩, rd := ⟨_, (R9.same s10).again (o := .ins CP dx (pflds L ra ja wa ga)) del_same ap, del_same, ap⟩, js := ⟨sy, ny, my⟩, ws := ⟨sz, nz, mz⟩, gs := ⟨sg, ng, mg'⟩ }
end
end Ly
end
section
set_option Elab.async false
set_option linter.all false
set_option maxRecDepth 100000
namespace Ly
open PySem PySem.Spec PyProof.Rows L2
/-- C.m is a staticmethod: its record at p, its def at g -/
structure CStat (K : PySem.W.Frag) (C : Addr) (mc : Value) (m : Str) (p g : Addr) : Prop where
  rd : PySem.W.readsIn K C mc = true
  ga : PySem.W.specialIn K (.ref C) "__getattribute__" = some (some (.builtin "type.__getattribute__"))
  at_ : PySem.W.findCls K (.ref C) mc m = some (.get (.builtin "staticmethod.__get__") (.ref p) .none (.ref C))
  rc : ∃ rest, PySem.W.recIn K p "staticmethod" = some (.ref g :: rest)
  kp : PySem.W.keepIn K (.ref g) = true
section
variable {X : Cx} {CX : CXT} {k : Nat} {p g C : Addr} {mc : Value} {fd : FuncData} {ps : List Str} {sp : Sp} {dvs : List V} {ds : List Value} {E : XK} {x m : Str} {p1 pos apos : Pos} {e : Expr} {es : List Expr} {t : TA}
theorem pe_stat {pl : Sem Bool} (S : CStat X.K C mc m p g) (hg : Gl X x) (hm : X.mg x = some (.ref C)) (F : FnOk X.prog X.w X.K X.mg X.base CX k g fd ps sp) (hr : Room k X.A) (hb : Binds X.K fd ps ds) (hd : Vals dvs ds) (hx : Passes CX X E) (ha : PA X (e :: es) t)
    (hdb : (x == ("__debug__" : Str)) = false := by decide) (he : starEach (e :: es) X.env = (false, eval e X.env) :: starEach es X.env := by rfl) (hpl : (backTo pos (starEach es X.env)).any (·.1) = false := by rfl)
    (ht : eval (.Call (.Attribute (.Name x p1) m apos) (e :: es) [] pos) X.env = (do
      let ov ← eval (.Name x p1) X.env
      standAt apos.atName
      let (f, first) ← holding [ov] (getMethod ov m pl)
      callWith pos f first (backTo pos (starEach (e :: es) X.env)) (backToKw pos (keywordEach [] X.env))) := by rfl) : PE X (.Call (.Attribute (.Name x p1) m apos) (e :: es) [] pos) (tCall sp dvs E t) := by
  refine ⟨fun pins s σ H Q I h => ?_⟩
  obtain ⟨rest, hp⟩ := S.rc
  refine PySem.W.methodCall_KW (pl := pl) (ld_glob I hg hm ?_ hdb) ht
  refine PySem.W.method_cls I.kIn S.ga (PySem.W.cls_bind I.kIn S.rd S.at_ (wpAny_call (PySem.W.sm_get (s := { s with toks := s.toks + 1 }) I.kIn hp (PySem.W.handed_on rfl ?_))))
  exact PySem.W.callWith_K (h₀ := X.base) (first := []) I.ok.mod.kin S.kp (thn (ha.run pos pins _ σ H _ (I.tok _) h) fun us s1 ⟨vs, H1, I1, r, q⟩ => ⟨I1.kIn, run_fn F hr hb hd hx I1 r q⟩) he hpl
/-- str(o), o's class has its own __str__ -/
theorem call_strOwn {f : Addr} (hs : PySem.W.findIn X.K (.ref C) "__str__" = some (some (.ref f))) (hf : PySem.W.isFn X.K (.ref f) = true) (F : FnOk X.prog X.w X.K X.mg X.base CX k f fd ps sp) (hr : Room (k + 2) X.A) (hb : Binds X.K fd ps []) (hx : Passes CX X E) :
    CallR X (.type "str") (fun xs H Q => ∃ (a dx : Addr) (fs : List (Str × V)), xs = [.ref a] ∧ H a = some (.ins C dx fs) ∧ sp [.ref a] H (fun v H' => (∃ z, v = .str z) ∧ Q v H') E) := by
  intro pins s σ H xs us Q I r h
  obtain ⟨a, dx, fs, rfl, ha, q⟩ := h
  rw [Vals.ref1 r]
  obtain ⟨mA, O, _⟩ := ins_get I.hok ha
  obtain ⟨od, J, _⟩ := O.look
  have hr2 : Room k X.A.in1.in1 := hr.in1.in1
  refine PySem.W.kso_call hr2.units0 I.kIn J hs hf (wpAny_call (codeAny_mono (F.run X.A.in1.in1 X.stack s H ⟨[.ref a], []⟩ [.ref a] [.ref a] _ E hr2 I.env0.in1.in1 ?_ (.cons rfl .nil) q) fun r s' hq => ?_))
  · have z := hb s [.ref a] I.kIn (by rw [List.append_nil]; exact F.len _ _ _ _ q)
    rw [List.append_nil] at z
    exact z
  · cases r with
    | error e => exact hx pins σ H s e s' I hq
    | ok fl =>
      cases fl with
      | ret u =>
        obtain ⟨v, H', I', rv, ⟨z, ez⟩, qq⟩ := I.after hq
        subst ez
        obtain ⟨tk, rfl⟩ := rv
        exact ⟨.str z, H', I', ⟨tk, rfl⟩, qq⟩
      | next => exact False.elim hq
      | brk => exact False.elim hq
      | cont => exact False.elim hq
end
section
variable {P : Program} {w : World} {K : PySem.W.Frag} {mg : Str → Option Value} {base : Heap} {CP CR CS : Addr}
/-! ### Program.read -/
def spRead (K : PySem.W.Frag) (CP CR CS CB CU CT : Addr) : Sp := fun vs H Q E => ∃ text : Str, vs = [.str text] ∧ text.length ≤ 90000 ∧ (Txt.split text "\n").length ≤ 900 ∧
  (match readM (Txt.split text "\n") with
    | .ok st => Few st.gates ∧ ∀ H' p L js ws gs T, Same H H' → H p = none → PgAt K CP CR CS H' p (Txt.split text "\n") st L js ws gs T → Q (.ref p) H'
    | .error (.row i) => ∀ H', Same H H' → Out CB "at" (.int (i : Int)) H' E
    | .error (.unk z) => ∀ H', Same H H' → Out CU "name" (.str z) H' E
    | .error (.many z) => ∀ H', Same H H' → Out CT "word" (.str z) H' E)
theorem sc_read : FnScope ["text"] ["text"] (defScope t_Program_read) := ⟨rfl, rfl, rfl, by decide +kernel, rfl, by decide +kernel, by decide +kernel⟩
theorem ok_read {f CB CU CT fI : Addr} {fd dI : FuncData} (F : Fun K "read" "Program.read" t_Program_read f fd) (G : PgC K mg CP) (GI : FnOk P w K mg base (L2.CX P w) 6 fI dI ["self", "text"] (spPInit K CP CR CS CB CU CT)) (MI : Mk K CP fI) (bI : Binds K dI ["self", "text"] []) :
    FnOk P w K mg base (L2.CX P w) 8 f fd ["text"] (spRead K CP CR CS CB CU CT) := by
  refine F.okX sc_read (fun vs H Q E h => ?_) (fun cdv A outer s H vs Q E hr h => ?_)
  · obtain ⟨text, rfl, _⟩ := h
    rfl
  · obtain ⟨text, rfl, ht, hn, k⟩ := h
    have tk : Takes (cxOf (L2.CX P w) P w K mg base ["text"] "Program.read" (defScope t_Program_read) f cdv A outer s H E) (fun c d _ H => E c d H) := takes_of rfl rfl rfl rfl
    have ps := passes_call (E := E) tk (fun _ _ _ _ h => h)
    refine ⟨_, pss_one (ps_ret (pe_make MI GI hr rfl G.g bI .nil ps (pa_cons (pv 0) pa_nil))), ?_⟩
    refine ⟨_, rfl, fun x dx nx nd ne => ⟨x, dx, text, rfl, upd_same, ht, hn, ?_⟩⟩
    have sx : ∀ {H'}, Kp x (upd (upd H dx (.own x)) x (.ins CP dx [])) H' → Same H H' := fun {H'} q b o e => q b o (by rw [upd_ne (ne_of_none e nx), upd_ne (ne_of_none e nd)]; exact e) (ne_of_none e nx)
    cases e : readM (Txt.split text "\n") with
    | error b =>
      rw [e] at k
      cases b with
      | row i => exact fun H' q => k H' (sx q)
      | unk z => exact fun H' q => k H' (sx q)
      | many z => exact fun H' q => k H' (sx q)
    | ok st =>
      rw [e] at k
      exact ⟨k.1, fun H' L js ws gs T q A => ⟨rfl, k.2 H' x L js ws gs T (sx q) nx A⟩⟩
/-! ### Program.__str__ -/
def spPStr (K : PySem.W.Frag) (CP : Addr) : Sp := fun vs H Q _ => ∃ (p dx ra : Addr) (fs : List (Str × V)) (text : Str), vs = [.ref p] ∧ H p = some (.ins CP dx fs) ∧ fs.lookup ("rows" : Str) = some (.ref ra) ∧ text.length ≤ 90000 ∧ SqT K H ra ((Txt.split text "\n").map V.str) ∧ Q (.str text) H
theorem sc_str : FnScope ["self"] ["self"] (defScope t_Program_str) := ⟨rfl, rfl, rfl, by decide +kernel, rfl, by decide +kernel, by decide +kernel⟩
theorem ok_str {f : Addr} {fd : FuncData} (F : Fun K "__str__" "Program.__str__" t_Program_str f fd) (G : PgC K mg CP) : FnOk P w K mg base CX0 1 f fd ["self"] (spPStr K CP) := by
  refine F.ok sc_str (fun vs H Q E h => ?_) (fun cdv A outer s H vs Q E hr h => ?_)
  · obtain ⟨p, dx, ra, fs, text, rfl, _⟩ := h
    rfl
  · obtain ⟨p, dx, ra, fs, text, rfl, hp, hl, ht, hq, k⟩ := h
    refine ⟨_, pss_one (ps_ret (pe_join pe_str (pe_fld (pv 0) rfl))), ?_⟩
    have e : Txt.join "\n" (Txt.split text "\n") = text := (PySem.StrLaws.glued_eq_join _ _).trans (PySem.StrLaws.join_split text "\n")
    have wt := split_weight text "\n" (by decide +kernel)
    refine ⟨⟨_, rfl⟩, _, rfl, p, CP, dx, fs, _, rfl, hp, G.cl, G.r, hl, _, ra, Txt.split text "\n", rfl, rfl, .inr hq, ?_, ?_⟩
    · have : (("\n" : Str)).length = 1 := by decide +kernel
      rw [this]
      omega
    · rw [e]
      exact k
end
end Ly
end
section
set_option Elab.async false
set_option linter.all false
set_option maxRecDepth 100000
/-! try: .. except X as e: .. except Y as e: .. -/
namespace Ly
open PySem PySem.Spec PyProof.Rows L2
/-- what such clauses wish of an exception of the body; slot i is e's -/
def wCl (K : PySem.W.Frag) (Wout : WX) (i : Nat) (D : Ends) : List (Value × (Addr → Value → Option Addr → TS)) → WX
  | [] => Wout
  | (c, ts) :: r => fun cls d σ H => ∃ b, PySem.W.exmOne K cls c = some b ∧
      (b = true → ∀ a, H a = none → ts a cls d { nx := fun σ' H' => D.nx (σ'.set i none) H', rt := D.rt, bk := fun σ' H' => D.bk (σ'.set i none) H', ct := fun σ' H' => D.ct (σ'.set i none) H' } (σ.set i (some (.ref a))) H) ∧
      (b = false → wCl K Wout i D r cls d σ H)
inductive ClOk (X : Cx) (n : Str) : List ExceptHandler → List (Value × (Addr → Value → Option Addr → TS)) → Prop
  | nil : ClOk X n [] []
  | cons {x : Str} {c : Value} {ts : Addr → Value → Option Addr → TS} {s0 : Stmt} {su : List Stmt} {np hp : Pos} {hds : List ExceptHandler} {l : List (Value × (Addr → Value → Option Addr → TS))} (hc : Names X x c)
      (hsu : ∀ (a : Addr) (oe : Obj) (cls : Value) (d : Option Addr) (pn : List (Addr × Obj)), Zc cls d oe → (∃ vs, oe.data = .fields vs) → PSs (X.suite a ((a, oe) :: pn)) (s0 :: su) (ts a cls d)) (r : ClOk X n hds l) :
      ClOk X n (.ExceptHandler (some (.Name x np)) (some n) (s0 :: su) hp :: hds) ((c, ts) :: l)
section
variable {X : Cx} {n : Str} {i : Nat} {body : List Stmt} {h0 : ExceptHandler} {hds : List ExceptHandler} {l : List (Value × (Addr → Value → Option Addr → TS))} {pos : Pos} {tb : WX → TS} {Wout : WX}
theorem ps_try_cl (hs : X.stack = X.env :: X.outer) (hf : X.env.frame = some X.env.locals) (hN : X.N.Nodup) (hi : X.N[i]? = some n) (hln : X.env.kindOf n = some .local) (tk : Takes X Wout)
    (hb : ∀ (W : WX) (pn : List (Addr × Obj)) (xe : Value → Shared → Prop), Takes (X.tr pn xe) W → PassesOwn (model X.prog X.w) X.A X.env xe → PSs (X.tr pn xe) body (tb W))
    (hh : ClOk X n (h0 :: hds) l) : PS X (.Try body (h0 :: hds) [] [] pos) (fun D σ H => tb (wCl X.K Wout i D l) D σ H) := by
  refine ⟨fun pins s σ H D I h => ?_⟩
  have ok := I.ok
  have frm : X.A.frames = some (X.env :: X.outer) := by rw [ok.frames, hs]
  refine wpAny_Try_except ?_
  refine wpAny_mono ((hb (wCl X.K Wout i D l) (X.pn ++ pins) (fun e s₁ => wpAny (model X.prog X.w) X.A (noteFrame e X.env) (fun _ s₂ => wpAny (model X.prog X.w) X.A (setFlight e none) (fun _ s₃ => wpAny (model X.prog X.w) X.A (handleBy e X.env (h0 :: hds)) (SP X pins D) X.xe s₃) X.xe s₂) X.xe s₁)
    (fun u s' xx => ?_) PassesOwn.looking).run [] s σ H D (I.toTry _) h) (fun f s1 hsp => ?_) (fun e s1 he => he)
  · obtain ⟨a, B, sI, pins', σ', H', cls, d, rfl, J', nb, up, sky, na, os, ag, w⟩ := xx
    have J : Inv X pins σ' H' sI := J'.ofTry ok
    have sky2 : Sky B (X.env :: X.outer) a (Zc cls d) X.env.locals s'.heap := by rw [← hs]; exact sky
    show wpAny (model X.prog X.w) X.A (noteFrame (.ref a) X.env) _ _ _
    refine Sky.land Zc.steady frm hf sky2 fun h3 fl3 up3 => ?_
    have J3 : Inv X pins σ' H' { s' with heap := h3 } := J.landed nb fl3.1 (up.trans up3) os ag
    obtain ⟨oe3, vs3, he3, hz3, hd3⟩ := fl3.there
    have nfr : a ∉ frs (X.env :: X.outer) := fun hm => by
      obtain ⟨_, o', e', hnf⟩ := fl3.2.2.1.mem hm
      rw [he3] at e'
      cases e'
      exact hnf _ hd3
    have nL : a ≠ X.env.locals := fun z => nfr (List.mem_filterMap.mpr ⟨X.env, List.mem_cons_self, by rw [hf, z]⟩)
    have nF : a ∉ X.fs := fun hm => let ⟨e, he, q⟩ := List.mem_filterMap.mp hm; nfr (List.mem_filterMap.mpr ⟨e, List.mem_cons_of_mem _ he, q⟩)
    have S3 := J3.suite he3 hd3 na nL nF
    have go : ∀ {hs' : List ExceptHandler} {l' : List (Value × (Addr → Value → Option Addr → TS))}, ClOk X n hs' l' → wCl X.K Wout i D l' cls d σ' H' → wpAny (model X.prog X.w) X.A (handleBy (.ref a) X.env hs') (SP X pins D) X.xe { s' with heap := h3 } := by
      intro hs' l' hk
      induction hk with
      | nil =>
        intro w
        refine wpAny_handleBy_nil ?_
        obtain ⟨_, _, _, oe, vs, T, oT, ts', he, hz, hd, h1, _⟩ := id fl3
        unfold PySem.passOn
        refine wpAny_bind (wpAny_field he hd h1 ?_)
        rw [if_neg (show ¬ ((Value.ref T == Value.none) = true) from by simp)]
        have on : wpAny (model X.prog X.w) X.A (setFlight (.ref a) X.env.frame) (fun _ s4 => wpAny (model X.prog X.w) X.A (throw (.ref a) : Sem Flow) (SP X pins D) X.xe s4) X.xe { s' with heap := h3 } := by
          rw [hf]
          exact HandSPX.setFlight_upZ fl3 fun h4 hh4 up4 => wpAny_throw (tk _ _ ⟨a, B, sI, pins, σ', H', cls, d, rfl, J, nb, (up.trans up3).trans up4, .inr (.inr (by rw [hs]; exact hh4)), na, os, ag, w⟩)
        first
          | exact wpAny_bind on
          | exact wpAny_bind (wpAny_pure (wpAny_bind on))
      | @cons x c ts s0 su np hp hds2 l2 hc hsu r ih =>
        intro w
        obtain ⟨b, hb1, hyes, hno⟩ := w
        refine wpAny_handleBy_cons (codeAny_handlers_test ?_) (by intro q; cases q)
        have LT : PySem.W.Looks (model X.prog X.w) h3 (typeOf (.ref a)) cls := fun A Q E s k q => wpAny_typeOf_ref (k _ _ he3) (by rw [hz3.1]; exact q)
        have LM := PySem.W.exm_one (M := model X.prog X.w) (J3.kIn) LT hb1
        have ask : ∀ {Q : Value → Shared → Prop} {E : Value → Shared → Prop}, Q c { s' with heap := h3 } → wpAny (model X.prog X.w) (X.A.mark (some (.ref a))) (eval (.Name x np) X.env) Q E { s' with heap := h3 } := fun {Q E} q => by
          obtain ⟨gl, nd, m | ⟨m, v, nn⟩⟩ := hc
          · exact ld_glob (X := X.suite a ((a, oe3) :: (X.pn ++ pins))) S3 gl m q nd
          · exact ld_blt (X := X.suite a ((a, oe3) :: (X.pn ++ pins))) S3 gl m v q nn nd
        refine ask (LM.here ?_)
        cases b with
        | false =>
          show wpAny _ X.A (handleBy (.ref a) X.env hds2) _ _ _
          exact ih (hno rfl)
        | true =>
          refine codeAny_handlers_suite_as (HandSPX.lands_againZ fl3 fun h4 fl4 up4 => ?_)
          have J4 : Inv X pins σ' H' { s' with heap := h4 } := J.landed nb fl4.1 ((up.trans up3).trans up4) os ag
          obtain ⟨oe4, vs4, he4, hz4, hd4⟩ := fl4.there
          refine store_ok (X := X.suite a ((a, oe4) :: (X.pn ++ pins))) (v := .ref a) (J4.suite he4 hd4 na nL nF) hN hi (.inl hln) rfl (fun s5 S5 => ?_) (.inr hln)
          refine wpAny_mono ((hsu a oe4 cls d (X.pn ++ pins) hz4 ⟨_, hd4⟩).run [] s5 _ H' _ S5 (hyes rfl a na)) (fun f s6 hsp => ?_) (fun _ _ z => False.elim z)
          have gone : ∀ {σ6 : L2.St} {H6 : Hp} {Q : Shared → Prop}, Inv (X.suite a ((a, oe4) :: (X.pn ++ pins))) [] σ6 H6 s6 → (∀ s7, Inv X pins (σ6.set i none) H6 s7 → Q s7) →
              wpAny (model X.prog X.w) X.A (do bindName X.env n .none; unbindBehindTheSuite X.env n hp) (fun _ s7 => Q s7) X.xe s6 := fun {σ6 H6 Q} S6 hq => gone_ok (S6.unsuite ok) hN hi hln hq
          cases f with
          | ret u => exact let ⟨v6, σ6, H6, S6, r6, q6⟩ := hsp; gone S6 fun s7 J7 => ⟨_, _, _, J7, r6, q6⟩
          | next => exact let ⟨σ6, H6, S6, q6⟩ := hsp; gone S6 fun s7 J7 => ⟨_, _, J7, q6⟩
          | brk => exact let ⟨σ6, H6, S6, q6⟩ := hsp; gone S6 fun s7 J7 => ⟨_, _, J7, q6⟩
          | cont => exact let ⟨σ6, H6, S6, q6⟩ := hsp; gone S6 fun s7 J7 => ⟨_, _, J7, q6⟩
    exact go hh w
  · cases f with
    | ret u => exact let ⟨v, σ', H', J', r, q⟩ := hsp; ⟨v, σ', H', J'.ofTry ok, r, q⟩
    | next => exact let ⟨σ', H', J', q⟩ := hsp; wpAny_execs_nil ⟨σ', H', J'.ofTry ok, q⟩
    | brk => exact let ⟨σ', H', J', q⟩ := hsp; ⟨σ', H', J'.ofTry ok, q⟩
    | cont => exact let ⟨σ', H', J', q⟩ := hsp; ⟨σ', H', J'.ofTry ok, q⟩
end
end Ly
end
section
set_option Elab.async false
set_option linter.all false
set_option maxRecDepth 100000
set_option maxHeartbeats 4000000
/-! isinstance(e, C) of a caught own exception that has attributes. -/
namespace Ly
open PySem PySem.Spec PyProof.Rows L2
open PySem.W (Frag InstAt Looks findIn specialIn takesIn subIn hasDictIn mroIn clsIn findObj KitX)
section
variable {prog : Program} {w : World} {A : Around} {E : Value → Shared → Prop} {s : Shared} {K : Frag} {x D : Addr} {ox : Obj} {od : Option Obj}
theorem cls_found {C : Addr} {a g : Value} {name : Str} (hc : (clsIn K C).isSome = true) (ha : findIn K (.ref C) name = some (some a)) (hg : specialIn K a "__get__" = some (some g)) (ht : takesIn K a = some true) : findObj K C od name = some (.bind g a) := by
  unfold findObj
  cases e : clsIn K C with
  | none => rw [e] at hc; cases hc
  | some cd =>
    rw [Option.bind_some, ha, Option.bind_some]
    simp [hg, ht]
theorem ask_class (T : ExcC K D) {Q : Option Value → Shared → Prop} (X : K.In s.heap) (I : InstAt s.heap x ox D od) (h : Q (some (.ref D)) { s with toks := s.toks + 1 }) : wpAny (model prog w) A (getAttr? (.ref x) "__class__") Q E s := by
  have fo : findObj K D od "__class__" = some (.bind (.builtin "getset_descriptor.__get__") (.builtin "object.__class__")) :=
    cls_found (by obtain ⟨cd, hc, _⟩ := PySem.W.any_some T.hd; rw [hc]; rfl) T.ha T.hn T.ht
  have onE : (Value.builtin "BaseException.__getattribute__" == Value.builtin "object.__getattribute__") = false := by decide +kernel
  obtain ⟨hp, g, d, t, os⟩ := s
  have k0 := I.type (M := model prog w)
  have k1 := PySem.W.looks_findIn (M := model prog w) X T.hg
  have k2 := PySem.W.looks_findIn (M := model prog w) X T.hk
  have k3 := PySem.W.looks_find (M := model prog w) X I fo
  have kB : Looks (model prog w) hp (isInstance (.ref x) (.type "BaseException")) true := k0.andThen (PySem.W.looks_subIn X T.hs)
  unfold getAttr? getAttrBy? getAttrBy
  refine wpAny_bind (wpAny_mkText (wpAny_bind (wpAny_attempt (wpAny_holding (wpAny_bind (k0.at (wpAny_bind (k1.at ?_))))))))
  show wpAny _ _ (if (onTheHeap (Value.ref D) && Value.builtin "BaseException.__getattribute__" == Value.builtin "object.__getattribute__") = true then _ else _) _ _ _
  rw [show (onTheHeap (Value.ref D) && Value.builtin "BaseException.__getattribute__" == Value.builtin "object.__getattribute__") = false by rw [onE]; rfl, if_neg Bool.false_ne_true]
  unfold getAttrByItsOwn hookBefore
  refine wpAny_bind ?_
  rw [if_pos (show onTheHeap (Value.ref D) = true from rfl)]
  refine k2.at (wpAny_bind (wpAny_attempt (wpAny_holding ?_)))
  unfold callGetattribute
  rw [show (false && onTheHeap (Value.builtin "BaseException.__getattribute__")) = false from rfl, if_neg Bool.false_ne_true]
  unfold boundAndCalled; rw [PySem.F.excAttr_ValueError.ga.bind (.ref x)]; refine wpAny_bind (wpAny_pure ?_)
  change wpAny _ _ (call (.builtin "BaseException.__getattribute__") [.ref x, .str "__class__" t]) _ _ _
  refine wpAny_call (codeAny_call_builtin PySem.F.excAttr_ValueError.ga.plain
    PySem.F.entry_bexc_ga ?_)
  refine @PySem.W.check_slot (model prog w) _ _ ⟨hp, g, d, t + 1, os⟩ "BaseException.__getattribute__" "BaseException" "__getattribute__" (.ref x) [.str "__class__" t] [] _ (by decide +kernel) (by decide +kernel) kB (PySem.F.args_bexc_ga (.ref x) (.str "__class__" t)) ?_
  unfold Builtin.«object.__getattribute__»
  refine wpAny_bind (wpAny_of_eq (a := ((Value.ref x : Value), [Value.str "__class__" t])) (by first | rfl | (simp only [slotArgs]; rfl)) ?_)
  refine wpAny_bind (wpAny_pure (wpAny_bind (k0.at (wpAny_bind (k3.at ?_)))))
  show wpAny _ _ (holding [Value.builtin "object.__class__"] (call (.builtin "getset_descriptor.__get__") [.builtin "object.__class__", .ref x, .ref D]) >>= ret) _ _ _
  refine wpAny_bind (wpAny_holding (wpAny_call (PySem.W.class_get (s := ⟨hp, g, d, t + 1, os⟩) (ox := ox) (od := od) X I T.hm ?_)))
  refine wpAny_pure ?_
  show wpAny _ _ (handedOut (.ref D)) _ _ _
  rw [PySem.W.handedOut_of (v := .ref D) rfl]
  first
    | exact wpAny_pure (wpAny_pure h)
    | exact wpAny_pure (wpAny_bind (wpAny_pure (wpAny_pure h)))
    | exact wpAny_pure h
theorem kit_excD (T : ExcC K D) : KitX K (.ref x) (.ref D) (fun h => InstAt h x ox D od) where
  ty := fun _ _ _ I => I.type
  it := fun _ _ X _ => by
    obtain ⟨cd1, hc1, _⟩ := PySem.W.any_some T.hd
    unfold clsIn at hc1
    split at hc1
    · rename_i c' d' cd' sl' ho
      intro A' Q' E' s' k q
      unfold isType loadHead
      exact wpAny_bind (wpAny_loadPart (k _ _ (X _ _ ho)) (wpAny_pure q))
    · cases hc1
  ne := fun h tp dd its n sl X htp => by
    obtain ⟨cd1, hc1, _⟩ := PySem.W.any_some T.hd
    refine Bool.eq_false_iff.mpr fun q => ?_
    obtain rfl : D = tp := Value.ref.inj (beq_iff_eq.mp q)
    unfold clsIn at hc1
    split at hc1
    · rename_i c' d' cd' sl' ho
      have z := (X _ _ ho).symm.trans htp
      cases z
    · cases hc1
  ca := fun X I k => ask_class T X I k
end
/-- isinstance(e, c), e the exception that the suite holds at a -/
def rIsD (K : PySem.W.Frag) (D a : Addr) (cls : Value) (d : Option Addr) : List V → Hp → VK → Prop := fun xs H Q => ∃ (c : V) (cv : Value) (b : Bool) (fs : List (Str × V)) (dd : Addr), xs = [.ref a, c] ∧ cls = .ref D ∧ d = some dd ∧ (∀ u, RelV c u → u = cv) ∧ PySem.W.kitOne K (.ref D) cv = some b ∧ H dd = some (.xd fs) ∧ Q (.bl b) H
theorem call_isD {X : Cx} {a D : Addr} {oe : Obj} {cls : Value} {d : Option Addr} {pn : List (Addr × Obj)} (C : ExcC X.K D) (hz : Zc cls d oe) (hf : ∃ vs, oe.data = .fields vs) : CallR (X.suite a ((a, oe) :: pn)) (.builtin "isinstance") (rIsD X.K D a cls d) := by
  intro pins s σ H xs us Q I r h
  obtain ⟨c, cv, b, fs, dd, rfl, ec, ed, hcv, e, hdd, q⟩ := h
  obtain ⟨u1, u2, rfl, r1, r2⟩ := vals2 r
  cases (show u1 = Value.ref a from r1)
  obtain rfl := hcv _ r2
  obtain ⟨hget, _⟩ := I.pin (a, oe) (List.mem_append_left _ List.mem_cons_self)
  obtain ⟨vs, hv⟩ := hf
  subst ec ed
  have hx : ObjOk X.prog X.w H s.heap dd (.xd fs) := I.hok dd _ hdd
  obtain ⟨mA, hns, hr⟩ := hx
  obtain ⟨od, ho, hl⟩ := lookIn_ns hns
  have J : PySem.W.InstAt s.heap a oe D (some od) := ⟨hget, hz.1, by unfold PySem.W.notCls; rw [hv] <;> rfl, by rw [hz.2]; exact ho⟩
  exact PySem.W.kia_one (kit_excD C) I.kIn J e (fun z => nomatch z) fun tk => ⟨.bl b, H, I.kept (t' := tk) fun _ _ z => z, rfl, q⟩
section
variable {X : Cx} {CX : CXT} {k : Nat} {p g C : Addr} {mc : Value} {fd : FuncData} {ps : List Str} {sp : Sp} {E : L2.St → XK} {x m : Str} {p1 pos apos : Pos} {e : Expr} {es : List Expr} {t : TA}
/-- C.m(e, ..), m a staticmethod that may raise within a try -/
theorem pe_statS {pl : Sem Bool} (S : CStat X.K C mc m p g) (hg : Gl X x) (hm : X.mg x = some (.ref C)) (F : FnOk X.prog X.w X.K X.mg X.base CX k g fd ps sp) (hr : Room k X.A) (hb : Binds X.K fd ps []) (hx : ∀ σ, PassesAt CX X σ (E σ)) (ha : PA X (e :: es) t)
    (hdb : (x == ("__debug__" : Str)) = false := by decide) (he : starEach (e :: es) X.env = (false, eval e X.env) :: starEach es X.env := by rfl) (hpl : (backTo pos (starEach es X.env)).any (·.1) = false := by rfl)
    (ht : eval (.Call (.Attribute (.Name x p1) m apos) (e :: es) [] pos) X.env = (do
      let ov ← eval (.Name x p1) X.env
      standAt apos.atName
      let (f, first) ← holding [ov] (getMethod ov m pl)
      callWith pos f first (backTo pos (starEach (e :: es) X.env)) (backToKw pos (keywordEach [] X.env))) := by rfl) : PE X (.Call (.Attribute (.Name x p1) m apos) (e :: es) [] pos) (tCallS sp E t) := by
  refine ⟨fun pins s σ H Q I h => ?_⟩
  obtain ⟨rest, hp⟩ := S.rc
  refine PySem.W.methodCall_KW (pl := pl) (ld_glob I hg hm ?_ hdb) ht
  refine PySem.W.method_cls I.kIn S.ga (PySem.W.cls_bind I.kIn S.rd S.at_ (wpAny_call (PySem.W.sm_get (s := { s with toks := s.toks + 1 }) I.kIn hp (PySem.W.handed_on rfl ?_))))
  exact PySem.W.callWith_K (h₀ := X.base) (first := []) I.ok.mod.kin S.kp (thn (ha.run pos pins _ σ H _ (I.tok _) h) fun us s1 ⟨vs, H1, I1, r, q⟩ => ⟨I1.kIn, run_fnS F hr hb (hx σ) I1 r q⟩) he hpl
end
/-! ### _law_heard -/
/-- the classes of errors, as the law's clauses see them -/
structure ErC (K : PySem.W.Frag) (mg : Str → Option Value) (CL CB CU CT : Addr) : Prop where
  gL : mg "LateError" = some (.ref CL)
  gB : mg "BadRow" = some (.ref CB)
  gU : mg "Unknown" = some (.ref CU)
  gT : mg "TooMany" = some (.ref CT)
  xB : ExcC K CB
  xU : ExcC K CU
  fB : XfC K CB
  fU : XfC K CU
  fT : XfC K CT
  nB : PySem.W.findIn K (.ref CB) "at" = some none
  nU : PySem.W.findIn K (.ref CU) "name" = some none
  nT : PySem.W.findIn K (.ref CT) "word" = some none
  bb : PySem.W.exmOne K (.ref CB) (.ref CB) = some true
  ub : PySem.W.exmOne K (.ref CU) (.ref CB) = some false
  uu : PySem.W.exmOne K (.ref CU) (.ref CU) = some true
  tb : PySem.W.exmOne K (.ref CT) (.ref CB) = some false
  tu : PySem.W.exmOne K (.ref CT) (.ref CU) = some false
  tt : PySem.W.exmOne K (.ref CT) (.ref CT) = some true
  kBL : PySem.W.kitOne K (.ref CB) (.ref CL) = some true
  kBT : PySem.W.kitOne K (.ref CB) (.ref CT) = some false
  kUL : PySem.W.kitOne K (.ref CU) (.ref CL) = some false
def heardM (text : Str) : Str × V := match readM (Txt.split text "\n") with
  | .ok _ => ("read", .str text)
  | .error (.row i) => ("row", .int (i : Int))
  | .error (.unk z) => ("unknown", .str z)
  | .error (.many z) => ("many", .str z)
def gatesOk (text : Str) : Prop := match readM (Txt.split text "\n") with
  | .ok st => st.gates.length < 64
  | _ => True
section
variable {P : Program} {w : World} {K : PySem.W.Frag} {mg : Str → Option Value} {base : Heap} {CP CR CS CL CB CU CT : Addr}
def spHeard (K : PySem.W.Frag) : Sp := fun vs H Q _ => ∃ text : Str, vs = [.str text] ∧ text.length ≤ 90000 ∧ (Txt.split text "\n").length ≤ 900 ∧ gatesOk text ∧
  ∀ H' t, Same H H' → SqT K H' t [.str (heardM text).1, (heardM text).2] → Q (.ref t) H'
end
end Ly
end
section
set_option Elab.async false
set_option linter.all false
set_option maxRecDepth 100000
/-! The law's own reader. -/
namespace Ly
open PySem PySem.Spec PyProof.Rows L2
theorem lang_split : Txt.split "say pause wait open begin fail give repeat guard late mend end each job walk closed dropped kept" " " = wordsL := by decide +kernel
def abcL : Str := "abcdefghijklmnopqrstuvwxyz"
theorem abc_sign (c : Nat) : decide (c ∈ abcL.cps.toList) = signOk c := by
  have e : abcL.cps.toList = [97, 98, 99, 100, 101, 102, 103, 104, 105, 106, 107, 108, 109, 110, 111, 112, 113, 114, 115, 116, 117, 118, 119, 120, 121, 122] := by kernel_rfl
  have s : signOk c = (decide (97 ≤ c) && decide (c ≤ 122)) := by
    unfold signOk leS
    rw [show (Str.ofString "a").cps.toList = [97] by kernel_rfl, show (Str.ofString "z").cps.toList = [122] by kernel_rfl]
    show (!decide ([c] < [97]) && !decide ([122] < [c])) = _
    have a1 : ([c] < [97]) ↔ c < 97 := by rw [List.cons_lt_cons_iff]; simp
    have a2 : ([122] < [c]) ↔ 122 < c := by rw [List.cons_lt_cons_iff]; simp
    rw [decide_eq_decide.mpr a1, decide_eq_decide.mpr a2]
    by_cases h1 : c < 97
    · rw [decide_eq_true h1, decide_eq_false (by omega : ¬ 97 ≤ c)]; rfl
    · by_cases h2 : 122 < c
      · rw [decide_eq_false h1, decide_eq_true h2, decide_eq_true (by omega : 97 ≤ c), decide_eq_false (by omega : ¬ c ≤ 122)]; rfl
      · rw [decide_eq_false h1, decide_eq_false h2, decide_eq_true (by omega : 97 ≤ c), decide_eq_true (by omega : c ≤ 122)]; rfl
  rw [s, e]
  by_cases h : 97 ≤ c ∧ c ≤ 122
  · rw [decide_eq_true h.1, decide_eq_true h.2, Bool.true_and]
    refine decide_eq_true ?_
    have : ∀ k : Fin 26, 97 + k.1 ∈ [97, 98, 99, 100, 101, 102, 103, 104, 105, 106, 107, 108, 109, 110, 111, 112, 113, 114, 115, 116, 117, 118, 119, 120, 121, 122] := by decide
    have q := this ⟨c - 97, by omega⟩
    have z : 97 + (c - 97) = c := by omega
    rw [show (97 + (⟨c - 97, by omega⟩ : Fin 26).1) = c from z] at q
    exact q
  · have : (decide (97 ≤ c) && decide (c ≤ 122)) = false := by
      by_cases h1 : 97 ≤ c
      · rw [decide_eq_false (fun z => h ⟨h1, z⟩), Bool.and_false]
      · rw [decide_eq_false h1, Bool.false_and]
    rw [this]
    refine decide_eq_false fun q => h ?_
    have : ∀ x ∈ [97, 98, 99, 100, 101, 102, 103, 104, 105, 106, 107, 108, 109, 110, 111, 112, 113, 114, 115, 116, 117, 118, 119, 120, 121, 122], 97 ≤ x ∧ x ≤ 122 := by decide
    exact this c q
/-! lists of texts, compared -/
def Pln (z : Str) : Prop := PyData.strOk z = true
theorem shaped_strs : ∀ zs : List Str, (∀ z ∈ zs, Pln z) → PyData.canLayAll0 (zs.map PyData.str) = true ∧ PyData.depthAll (zs.map PyData.str) = 0
  | [], _ => ⟨rfl, rfl⟩
  | z :: r, h => by
    obtain ⟨a, b⟩ := shaped_strs r fun y hy => h y (List.mem_cons_of_mem _ hy)
    have hz : PyData.strOk z = true := h z List.mem_cons_self
    exact ⟨by simp [PyData.canLayAll0, PyData.canLay0, a, hz], by simp [PyData.depthAll, PyData.depth, b]⟩
theorem dp_strs {K : PySem.W.Frag} {H : Hp} : ∀ zs : List Str, DpAll K H (zs.map V.str) (zs.map PyData.str)
  | [] => .nil
  | z :: r => .cons (.str z) (dp_strs r)
theorem eqv_nil (ds : List PyData) : PyData.eqv (.list ds) (.list []) = ds.isEmpty := by
  cases ds <;> simp [PyData.eqv, PyData.eqvAll]
theorem pln_sign {z : Str} (h : Pln z) {c : Nat} (hc : c ∈ z.cps.toList) : Pln ⟨#[c]⟩ := by
  have q : z.cps.all (· < 0x110000) = true := h
  rw [← Array.all_toList, List.all_eq_true] at q
  have := q c hc
  show (#[c] : Array Nat).all (· < 0x110000) = true
  simpa using this
section
variable {P : Program} {w : World} {K : PySem.W.Frag} {mg : Str → Option Value} {base : Heap}
def spLName : Sp := fun vs H Q _ => ∃ z : Str, vs = [.str z] ∧ z.length ≤ 100000 ∧ Pln z ∧ ∀ H', Same H H' → Q (.bl (isName z)) H'
end
end Ly
end
section
set_option Elab.async false
set_option linter.all false
set_option maxRecDepth 100000
namespace Ly
open PySem PySem.Spec PyProof.Rows L2
/-- list(s), s a text: its signs -/
def signsV (z : Str) : List V := z.cps.toList.map fun c => V.str ⟨#[c]⟩
theorem cr_listTxt {X : Cx} (hc : X.calm = true) : CallR X (.type "list") (fun xs H Q => ∃ z : Str, xs = [.str z] ∧ z.length ≤ sizeLine ∧ ∀ p, H p = none → Q (.ref p) (upd H p (.lst (signsV z)))) := by
  intro pins s σ H xs us Q I r h
  obtain ⟨z, rfl, hz, q⟩ := h
  obtain ⟨u, rfl, ru⟩ := vals1 r
  obtain ⟨t, rfl⟩ := ru
  have fr : H s.heap.objs.size = none := I.hok.fresh (Nat.le_refl _)
  refine PySem.call_list_str (I.ok.hd hc) z t (fun h' tk acc c k e it => ?_) hz
  refine ⟨.ref s.heap.objs.size, upd H s.heap.objs.size (.lst (signsV z)), I.laid (t' := tk) k (Nat.le_refl _) ⟨?_, acc.toList, c, ?_, e⟩, rfl, q _ fr⟩
  · show (z.cps.toList.map _).length ≤ sizeLine
    rw [List.length_map, Array.length_toList]
    exact hz
  · refine vals_of_at ?_ fun j x u h1 h2 => ?_
    · show (z.cps.toList.map _).length = _
      rw [List.length_map, Array.length_toList, Array.length_toList, it.1]
    · obtain ⟨c, w, e1, e2⟩ := it.2 j u (by rw [← Array.getElem?_toList]; exact h2)
      have h1 : (z.cps.toList.map fun c => V.str ⟨#[c]⟩)[j]? = some x := h1
      rw [List.getElem?_map, Array.getElem?_toList, e1] at h1
      obtain rfl := Option.some.inj h1
      rw [e2]
      exact ⟨w, rfl⟩
/-- the law's words for a bad row: the blocks (from the outside), the walks and jobs told, the row's parts -/
def lTop (stk : List (List Str)) : Str := match stk.getLast? with | none => "" | some b => b.getD 0 ""
def lBad (stk : List (List Str)) (tw tj ps : List Str) : Bool :=
  if ps.getD 0 "" = "walk" ∨ ps.getD 0 "" = "job" then
    !stk.isEmpty || (ps.length != 2 || (!isName (ps.getD 1 "") || (if ps.getD 0 "" = "walk" then tw else tj).any (· == ps.getD 1 "")))
  else if stk.isEmpty || ((["end", "late", "mend", "pause", "guard", "give"] : List Str).any (· == ps.getD 0 "") && ps.length != 1) then true
  else if (["end", "late", "mend"] : List Str).any (· == ps.getD 0 "") then decide (lTop stk = "guard") == decide (ps.getD 0 "" = "end")
  else if (["pause", "guard"] : List Str).any (· == ps.getD 0 "") then false
  else if ps.getD 0 "" = "give" then !decide ((stk.headD []).getD 0 "" = "walk") || stk.any (· == [("late" : Str)])
  else if (["say", "wait", "open", "begin", "fail"] : List Str).any (· == ps.getD 0 "") then ps.length != 2 || !isName (ps.getD 1 "")
  else if ps.getD 0 "" = "repeat" then ps.length != 2 || !(("123456789" : Str).cps.toList.map fun c => (⟨#[c]⟩ : Str)).any (· == ps.getD 1 "")
  else if ps.getD 0 "" ≠ "each" ∨ ¬ (ps.length = 3 ∨ ps.length = 4) ∨ (tw.any (· == ps.getD 1 "")) = false ∨ ps.getD (ps.length - 1) "" = "" then true
  else if !((["closed", "dropped", "kept"] : List Str).any (· == ps.getD 2 "")) || (ps.length == 4 && !(("123456789" : Str).cps.toList.map fun c => (⟨#[c]⟩ : Str)).any (· == ps.getD 3 "")) then true
  else decide (ps.getD 2 "" = "kept") && (!decide ((stk.headD []).getD 0 "" = "job") || stk.any (· == [("each" : Str), ps.getD 1 "", "kept"]))
/-- the stack as it stands at a -/
structure StkAt (H : Hp) (a : Addr) (stk : List (List Str)) (ts : List Addr) : Prop where
  at_ : H a = some (.lst (ts.map V.ref))
  len : ts.length = stk.length
  tup : ∀ (i : Nat) (t : Addr), ts[i]? = some t → ∃ b, stk[i]? = some b ∧ H t = some (.tup (b.map V.str)) ∧ (∀ z ∈ b, Pln z) ∧ b ≠ []
  few : stk.length ≤ 1000
/-- what is told: the dict at d, its two lists -/
structure ToldAt (H : Hp) (d aw aj : Addr) (tw tj : List Str) : Prop where
  at_ : H d = some (.dK [(.inr "walk", .ref aw), (.inr "job", .ref aj)])
  w : H aw = some (.lst (tw.map V.str))
  j : H aj = some (.lst (tj.map V.str))
theorem StkAt.same {H H' : Hp} {a : Addr} {stk : List (List Str)} {ts : List Addr} (h : StkAt H a stk ts) (s : Same H H') : StkAt H' a stk ts :=
  ⟨s _ _ h.at_, h.len, fun i t e => let ⟨b, e1, e2, r⟩ := h.tup i t e; ⟨b, e1, s _ _ e2, r⟩, h.few⟩
theorem ToldAt.same {H H' : Hp} {d aw aj : Addr} {tw tj : List Str} (h : ToldAt H d aw aj tw tj) (s : Same H H') : ToldAt H' d aw aj tw tj := ⟨s _ _ h.at_, s _ _ h.w, s _ _ h.j⟩
theorem told_walk {H : Hp} {d aw aj : Addr} {tw tj : List Str} (h : ToldAt H d aw aj tw tj) : DGet H d (.str "walk") (some (.ref (if ("walk" : Str) = "walk" then aw else aj))) := by
  have e : valV [((Sum.inr ("walk" : Str) : L2.Key), V.ref aw), (Sum.inr ("job" : Str), V.ref aj)] (Sum.inr "walk") = some (V.ref aw) := by kernel_rfl
  have g : DGet H d (.str "walk") (valV [((Sum.inr ("walk" : Str) : L2.Key), V.ref aw), (Sum.inr ("job" : Str), V.ref aj)] (Sum.inr "walk")) := DGet.k (k := Sum.inr "walk") h.at_
  rw [e] at g
  rw [if_pos rfl]
  exact g
theorem told_job {H : Hp} {d aw aj : Addr} {tw tj : List Str} (h : ToldAt H d aw aj tw tj) : DGet H d (.str "job") (some (.ref (if ("job" : Str) = "walk" then aw else aj))) := by
  have e : valV [((Sum.inr ("walk" : Str) : L2.Key), V.ref aw), (Sum.inr ("job" : Str), V.ref aj)] (Sum.inr "job") = some (V.ref aj) := by kernel_rfl
  have g : DGet H d (.str "job") (valV [((Sum.inr ("walk" : Str) : L2.Key), V.ref aw), (Sum.inr ("job" : Str), V.ref aj)] (Sum.inr "job")) := DGet.k (k := Sum.inr "job") h.at_
  rw [e] at g
  rw [if_neg (by decide +kernel)]
  exact g
/-- a stack as data -/
def stkD (stk : List (List Str)) : List PyData := stk.map fun b => .tuple (b.map PyData.str)
theorem dp_stk {K : PySem.W.Frag} {H : Hp} : ∀ (stk : List (List Str)) (ts : List Addr), ts.length = stk.length → (∀ (i : Nat) (t : Addr), ts[i]? = some t → ∃ b, stk[i]? = some b ∧ H t = some (.tup (b.map V.str)) ∧ (∀ z ∈ b, Pln z) ∧ b ≠ []) → DpAll K H (ts.map V.ref) (stkD stk) ∧ PyData.canLayAll0 (stkD stk) = true ∧ PyData.depthAll (stkD stk) ≤ 1
  | [], [], _, _ => ⟨.nil, rfl, by decide⟩
  | [], _ :: _, h, _ => by cases h
  | _ :: _, [], h, _ => by cases h
  | b :: stk, t :: ts, h, f => by
    obtain ⟨a1, a2, a3⟩ := dp_stk (K := K) (H := H) stk ts (by simpa using h) fun i u e => by
      obtain ⟨b', e1, r⟩ := f (i + 1) u (by simpa using e)
      exact ⟨b', by simpa using e1, r⟩
    obtain ⟨b0, e0, e1, e2, _⟩ := f 0 t rfl
    obtain rfl : b = b0 := Option.some.inj e0
    obtain ⟨q1, q2⟩ := shaped_strs b e2
    refine ⟨.cons (.tup (SqT.of e1) (dp_strs b)) a1, ?_, ?_⟩
    · show (PyData.canLay0 (.tuple _) && PyData.canLayAll0 _) = true
      exact Bool.and_eq_true_iff.mpr ⟨q1, a2⟩
    · show max (PyData.depth (.tuple (b.map PyData.str))) (PyData.depthAll (stkD stk)) ≤ 1
      have : PyData.depth (.tuple (b.map PyData.str)) = 1 := by
        unfold PyData.depth
        rw [q2]
      omega
theorem StkAt.dp {K : PySem.W.Frag} {H : Hp} {a : Addr} {stk : List (List Str)} {ts : List Addr} (h : StkAt H a stk ts) : Dp K H (.ref a) (.list (stkD stk)) ∧ SeqAt.shaped (.list (stkD stk)) = true := by
  obtain ⟨a1, a2, a3⟩ := dp_stk (K := K) stk ts h.len h.tup
  refine ⟨.lst (SqL.of h.at_) a1, ?_⟩
  show (PyData.canLayAll0 _ && decide (PyData.depth (.list (stkD stk)) ≤ 64)) = true
  rw [a2, Bool.true_and]
  refine decide_eq_true ?_
  unfold PyData.depth
  omega
theorem stk_nil (stk : List (List Str)) : PyData.eqv (.list (stkD stk)) (.list []) = stk.isEmpty := by
  rw [eqv_nil]
  cases stk <;> rfl
theorem eqvAll_strs : ∀ a b : List Str, PyData.eqvAll (a.map PyData.str) (b.map PyData.str) = (a == b)
  | [], [] => rfl
  | [], _ :: _ => rfl
  | _ :: _, [] => rfl
  | x :: a, y :: b => by
    show (PyData.eqv (.str x) (.str y) && PyData.eqvAll _ _) = (x :: a == y :: b)
    rw [eqvAll_strs a b]
    rfl
theorem stk_any (stk : List (List Str)) (b : List Str) : ((stkD stk).any fun z => PyData.eqv z (.tuple (b.map PyData.str))) = stk.any (· == b) := by
  unfold stkD
  rw [List.any_map]
  congr 1
  funext x
  exact eqvAll_strs x b
theorem ne_len (n m : Nat) : (!decide (V.int (n : Int) = V.int (m : Int))) = (n != m) := by
  by_cases h : n = m
  · rw [decide_eq_true (by rw [h])]
    simp [h]
  · rw [decide_eq_false fun z => h (by have := V.int.inj z; omega)]
    simp [h]
theorem eq_len (n m : Nat) : decide (V.int (n : Int) = V.int (m : Int)) = (n == m) := by
  by_cases h : n = m
  · rw [decide_eq_true (by rw [h])]
    simp [h]
  · rw [decide_eq_false fun z => h (by have := V.int.inj z; omega)]
    simp [h]
theorem eq_str (a b : Str) : decide (V.str a = V.str b) = decide (a = b) := decide_eq_decide.mpr ⟨V.str.inj, fun h => by rw [h]⟩
theorem eq_bl (a b : Bool) : decide (V.bl a = V.bl b) = (a == b) := by cases a <;> cases b <;> rfl
theorem in34 (n : Nat) : inV (.int (n : Int)) [.int 3, .int 4] = decide (n = 3 ∨ n = 4) := by
  show (((3 : Int) == (n : Int)) || (((4 : Int) == (n : Int)) || false)) = _
  by_cases h1 : n = 3
  · subst h1; rfl
  · by_cases h2 : n = 4
    · subst h2; rfl
    · rw [decide_eq_false (by omega)]
      have a : ((3 : Int) == (n : Int)) = false := by simp; omega
      have b : ((4 : Int) == (n : Int)) = false := by simp; omega
      rw [a, b]
      rfl
/-- the outermost block -/
theorem StkAt.head {H : Hp} {a : Addr} {stk : List (List Str)} {ts : List Addr} (h : StkAt H a stk ts) (ne : stk.isEmpty = false) : ∃ t, atI (ts.map V.ref) 0 = some (V.ref t) ∧ H t = some (.tup ((stk.headD []).map V.str)) ∧ 0 < (stk.headD []).length := by
  cases stk with
  | nil => cases ne
  | cons b r =>
    cases ts with
    | nil => have := h.len; cases this
    | cons t ts =>
      obtain ⟨b', e1, e2, _, e4⟩ := h.tup 0 t rfl
      obtain rfl : b = b' := Option.some.inj e1
      exact ⟨t, atI_nat (j := 0) rfl, e2, List.length_pos_iff.mpr e4⟩
/-- z in ("..", ..) -/
theorem step_in {K : PySem.W.Frag} {σ : L2.St} {H : Hp} {QQ : Bool → Hp → Prop} (ws : List Str) (z : Str) {ta : TA} (hta : ∀ Qa : List V → Hp → Prop, Qa (ws.map V.str) H → ta σ H Qa) (hsz : ws.length ≤ 1000) (h : ∀ H', Same H H' → QQ (ws.any (· == z)) H') :
    tTup ta σ H (fun y H2 => rIn K false (.str z) y H2 fun x H' => ∃ k, x = .bl k ∧ QQ k H') := by
  refine hta _ ⟨by rw [List.length_map, sizeLine_eq]; omega, fun p hp => ⟨p, ws.map V.str, rfl, .inr (SqT.of upd_same), rfl, flat_str ws, _, rfl, ?_⟩⟩
  show QQ (inV (.str z) (ws.map V.str)) _
  rw [inV_strs]
  exact h _ (same_new hp)
theorem step_notin {K : PySem.W.Frag} {σ : L2.St} {H : Hp} {QQ : Bool → Hp → Prop} (ws : List Str) (z : Str) {ta : TA} (hta : ∀ Qa : List V → Hp → Prop, Qa (ws.map V.str) H → ta σ H Qa) (hsz : ws.length ≤ 1000) (h : ∀ H', Same H H' → QQ (!ws.any (· == z)) H') :
    tTup ta σ H (fun y H2 => rIn K true (.str z) y H2 fun x H' => ∃ k, x = .bl k ∧ QQ k H') := by
  refine hta _ ⟨by rw [List.length_map, sizeLine_eq]; omega, fun p hp => ⟨p, ws.map V.str, rfl, .inr (SqT.of upd_same), rfl, flat_str ws, _, rfl, ?_⟩⟩
  show QQ (!inV (.str z) (ws.map V.str)) _
  rw [inV_strs]
  exact h _ (same_new hp)
theorem step_nil {K : PySem.W.Frag} {σ : L2.St} {H : Hp} {QQ : Bool → Hp → Prop} {a : Addr} {stk : List (List Str)} {ts : List Addr} (hS : StkAt H a stk ts) (h : ∀ H', Same H H' → QQ stk.isEmpty H') :
    tLst tNil σ H (fun y H2 => rEqD K (.ref a) y H2 fun x H' => ∃ k, x = .bl k ∧ QQ k H') := by
  refine ⟨by show 0 ≤ sizeLine; decide, fun p hp => ?_⟩
  have s1 := same_new (o := .lst []) hp
  obtain ⟨dp, sh⟩ := (hS.same s1).dp (K := K)
  refine ⟨_, .list [], dp, .lst (SqL.of upd_same) .nil, sh, by rfl, _, rfl, ?_⟩
  rw [stk_nil]
  exact h _ s1
theorem step_blkV {K : PySem.W.Frag} {H : Hp} {Q : VK} {a p : Addr} {stk : List (List Str)} {ts : List Addr} (hS : StkAt H a stk ts) (b : List Str) (hb : SqT K H p (b.map V.str)) (hl : ∀ z ∈ b, Pln z) (h : Q (.bl (stk.any (· == b))) H) : rInD K (.ref p) (.ref a) H Q := by
  obtain ⟨dp, sh⟩ := hS.dp (K := K)
  obtain ⟨q1, q2⟩ := shaped_strs b hl
  refine ⟨.tuple (b.map PyData.str), stkD stk, .tup hb (dp_strs b), dp, ?_, sh, ?_⟩
  · show (PyData.canLayAll0 _ && decide (PyData.depth _ ≤ 64)) = true
    rw [q1, Bool.true_and]
    unfold PyData.depth
    rw [q2]
    rfl
  · rw [stk_any]
    exact h
/-- blk in stack -/
theorem step_blk {K : PySem.W.Frag} {σ : L2.St} {H : Hp} {QQ : Bool → Hp → Prop} {a p : Addr} {stk : List (List Str)} {ts : List Addr} (hS : StkAt H a stk ts) (b : List Str) (hb : SqT K H p (b.map V.str)) (hl : ∀ z ∈ b, Pln z) (h : QQ (stk.any (· == b)) H) :
    rInD K (.ref p) (.ref a) H fun x H' => ∃ k, x = .bl k ∧ QQ k H' := by
  obtain ⟨dp, sh⟩ := hS.dp (K := K)
  obtain ⟨q1, q2⟩ := shaped_strs b hl
  refine ⟨.tuple (b.map PyData.str), stkD stk, .tup hb (dp_strs b), dp, ?_, sh, _, rfl, ?_⟩
  · show (PyData.canLayAll0 _ && decide (PyData.depth _ ≤ 64)) = true
    rw [q1, Bool.true_and]
    unfold PyData.depth
    rw [q2]
    rfl
  · rw [stk_any]
    exact h
section
variable {P : Program} {w : World} {K : PySem.W.Frag} {mg : Str → Option Value} {base : Heap}
def spBad (K : PySem.W.Frag) : Sp := fun vs H Q _ => ∃ (a d q aw aj : Addr) (stk : List (List Str)) (ts : List Addr) (tw tj ps : List Str), vs = [.ref a, .ref d, .ref q] ∧ StkAt H a stk ts ∧ ToldAt H d aw aj tw tj ∧ SqL K H q (ps.map V.str) ∧ ps ≠ [] ∧ ps.length ≤ 100000 ∧
  (∀ z ∈ ps, z.length ≤ 100000 ∧ Pln z) ∧ ∀ H', Same H H' → Q (.bl (lBad stk tw tj ps)) H'
end
end Ly
end
section
set_option Elab.async false
set_option linter.all false
set_option maxRecDepth 100000
namespace Ly
open PySem PySem.Spec PyProof.Rows L2
section
variable {X : Cx} {e e2 : Expr} {te te2 : TE} {ap pos : Pos}
/-- xs.pop() -/
theorem pPop (ho : PE X e te) (hbase : attributeBase e "pop" X.env (eval e X.env) = eval e X.env := by rfl) (hline : (ap.endLine == pos.line) = true := by rfl) : PE X (.Call (.Attribute e "pop" ap) [] [] pos) (tBM0 X.K "list" rPop te) :=
  pe_bm0 PySem.F.plainAttrs_list PySem.F.slot_list_pop PySem.F.type_list_pop mt_pop ho hbase hline
/-- xs.extend(e) -/
theorem pExtend (ho : PE X e te) (he : PE X e2 te2)
    (hbase : attributeBase e "extend" X.env (eval e X.env) = eval e X.env := by rfl)
    (hfew : ((backTo pos (starEach [e2] X.env)).all (fun x => !x.1) && (backToKw pos (keywordEach [] X.env)).all (fun x => x.1.isSome) && decide ([e2].length + ([] : List Keyword).length + (if ([] : List Keyword).isEmpty then 0 else 1) < 30)) = true := by rfl)
    (hline : (ap.endLine == pos.line) = true := by rfl) (hs : starEach [e2] X.env = (false, eval e2 X.env) :: starEach [] X.env := by rfl) (hplain : (backTo pos (starEach [] X.env)).any (·.1) = false := by rfl) :
    PE X (.Call (.Attribute e "extend" ap) [e2] [] pos) (tBM X.K "list" rExtend te (tCons te2 tNil)) :=
  pe_bm PySem.F.plainAttrs_list PySem.F.slot_list_extend PySem.F.type_list_extend mt_extend ho (pa_cons he pa_nil hs) hbase hfew hline hs hplain
end
/-- what the law's reader holds -/
structure LSt where
  stk : List (List Str)
  tw : List Str
  tj : List Str
  bg : List Str
  dp : Nat
def lStart : LSt := ⟨[], [], [], [], 0⟩
def opensL : List Str := ["walk", "job", "repeat", "guard", "each"]
def endsL : List Str := ["late", "mend", "end"]
def lOpen (ls : LSt) (ps : List Str) : LSt := if opensL.any (· == ps.getD 0 "") then { ls with stk := ls.stk ++ [ps.take 3], dp := max ls.dp ls.stk.length } else ls
def lClose (ls : LSt) (w : Str) : LSt :=
  if endsL.any (· == w) then
    let gone := ls.stk.getLastD []
    let stk := ls.stk.dropLast ++ (if w = "end" then [] else [[w]])
    if stk.isEmpty then (if gone.getD 0 "" = "walk" then { ls with stk := stk, tw := ls.tw ++ [gone.getD 1 ""] } else { ls with stk := stk, tj := ls.tj ++ [gone.getD 1 ""] }) else { ls with stk := stk }
  else ls
def lStep (ls : LSt) (ps : List Str) : LSt :=
  lClose (lOpen (if ps.getD 0 "" = "begin" then { ls with bg := ls.bg ++ [ps.getD 1 ""] } else ls) ps) (ps.getD 0 "")
def lGo : List Str → Nat → LSt → Except Nat LSt
  | [], _, ls => .ok ls
  | r :: rs, i, ls => if lBad ls.stk ls.tw ls.tj (Txt.split r " ") = true then .error i else lGo rs (i + 1) (lStep ls (Txt.split r " "))
def lSizes (ls : LSt) (n : Nat) : Str := if 100 < n then "rows" else if 6 < ls.tj.length then "jobs" else if 6 < ls.tw.length then "walks" else if 6 < ls.dp then "deep" else "none"
def lDue (rows : List Str) : Str × V := match lGo rows 0 lStart with
  | .error i => ("row", .int (i : Int))
  | .ok ls => if ls.stk.isEmpty = false then ("row", .int (rows.length : Int)) else match ((("main" : Str) :: ls.bg).find? fun z => !ls.tj.any (· == z)) with
    | some z => ("unknown", .str z)
    | none => ("many", .str (lSizes ls rows.length))
/-- the law's state as it stands: over H0 -/
structure LRep (H0 H : Hp) (a d aw aj gb : Addr) (ls : LSt) (ts : List Addr) (T : Nat) : Prop where
  S : StkAt H a ls.stk ts
  D : ToldAt H d aw aj ls.tw ls.tj
  b : H gb = some (.lst (ls.bg.map V.str))
  n1 : a ≠ aw
  n2 : a ≠ aj
  n3 : a ≠ gb
  n4 : aw ≠ aj
  n5 : aw ≠ gb
  n6 : aj ≠ gb
  f1 : H0 a = none
  f2 : H0 aw = none
  f3 : H0 aj = none
  f4 : H0 gb = none
  base : Same H0 H
  z1 : ls.stk.length ≤ T
  z2 : ls.tw.length ≤ T
  z3 : ls.tj.length ≤ T
  z4 : ls.bg.length ≤ T
  z5 : ls.dp ≤ T
  z6 : T ≤ 1000
/-- a list is written that is not the stack -/
theorem StkAt.off {H : Hp} {a x : Addr} {stk : List (List Str)} {ts : List Addr} {xs ys : List V} (h : StkAt H a stk ts) (hx : H x = some (.lst xs)) (ne : a ≠ x) : StkAt (upd H x (.lst ys)) a stk ts :=
  ⟨by rw [upd_ne ne]; exact h.at_, h.len, fun i t e => let ⟨b, e1, e2, r⟩ := h.tup i t e; ⟨b, e1, by rw [upd_ne (ne_of e2 hx (by intro z; cases z))]; exact e2, r⟩, h.few⟩
section
variable {H0 H : Hp} {a d aw aj gb : Addr} {ls : LSt} {ts : List Addr} {T : Nat}
theorem LRep.more (R : LRep H0 H a d aw aj gb ls ts T) (h : T + 1 ≤ 1000) : LRep H0 H a d aw aj gb ls ts (T + 1) :=
  { R with z1 := Nat.le_succ_of_le R.z1, z2 := Nat.le_succ_of_le R.z2, z3 := Nat.le_succ_of_le R.z3, z4 := Nat.le_succ_of_le R.z4, z5 := Nat.le_succ_of_le R.z5, z6 := h }
theorem LRep.same {H' : Hp} (R : LRep H0 H a d aw aj gb ls ts T) (s : Same H H') : LRep H0 H' a d aw aj gb ls ts T := { R with S := R.S.same s, D := R.D.same s, b := s _ _ R.b, base := R.base.trans s }
theorem LRep.dne (R : LRep H0 H a d aw aj gb ls ts T) {x : Addr} {xs : List V} (hx : H x = some (.lst xs)) : d ≠ x := ne_of R.D.at_ hx (by intro z; cases z)
theorem LRep.bgAdd (R : LRep H0 H a d aw aj gb ls ts T) (z : Str) (h : ls.bg.length + 1 ≤ T) : LRep H0 (upd H gb (.lst (ls.bg.map V.str ++ [V.str z]))) a d aw aj gb { ls with bg := ls.bg ++ [z] } ts T :=
  { R with
    S := R.S.off R.b R.n3
    D := ⟨by rw [upd_ne (R.dne R.b)]; exact R.D.at_, by rw [upd_ne R.n5]; exact R.D.w, by rw [upd_ne R.n6]; exact R.D.j⟩
    b := by rw [upd_same]; show _ = some (HO.lst (List.map V.str (ls.bg ++ [z]))); rw [List.map_append]; rfl
    base := base_upd R.base R.f4
    z4 := by show (ls.bg ++ [z]).length ≤ T; rw [List.length_append]; exact h }
theorem LRep.twAdd (R : LRep H0 H a d aw aj gb ls ts T) (z : Str) (h : ls.tw.length + 1 ≤ T) : LRep H0 (upd H aw (.lst (ls.tw.map V.str ++ [V.str z]))) a d aw aj gb { ls with tw := ls.tw ++ [z] } ts T :=
  { R with
    S := R.S.off R.D.w R.n1
    D := ⟨by rw [upd_ne (R.dne R.D.w)]; exact R.D.at_, by rw [upd_same]; show _ = some (HO.lst (List.map V.str (ls.tw ++ [z]))); rw [List.map_append]; rfl, by rw [upd_ne R.n4.symm]; exact R.D.j⟩
    b := by rw [upd_ne R.n5.symm]; exact R.b
    base := base_upd R.base R.f2
    z2 := by show (ls.tw ++ [z]).length ≤ T; rw [List.length_append]; exact h }
theorem LRep.tjAdd (R : LRep H0 H a d aw aj gb ls ts T) (z : Str) (h : ls.tj.length + 1 ≤ T) : LRep H0 (upd H aj (.lst (ls.tj.map V.str ++ [V.str z]))) a d aw aj gb { ls with tj := ls.tj ++ [z] } ts T :=
  { R with
    S := R.S.off R.D.j R.n2
    D := ⟨by rw [upd_ne (R.dne R.D.j)]; exact R.D.at_, by rw [upd_ne R.n4]; exact R.D.w, by rw [upd_same]; show _ = some (HO.lst (List.map V.str (ls.tj ++ [z]))); rw [List.map_append]; rfl⟩
    b := by rw [upd_ne R.n6.symm]; exact R.b
    base := base_upd R.base R.f3
    z3 := by show (ls.tj ++ [z]).length ≤ T; rw [List.length_append]; exact h }
/-- the stack is written -/
theorem LRep.stk (R : LRep H0 H a d aw aj gb ls ts T) (stk' : List (List Str)) (ts' : List Addr) (hl : ts'.length = stk'.length) (hf : stk'.length ≤ T)
    (ht : ∀ (i : Nat) (t : Addr), ts'[i]? = some t → ∃ b, stk'[i]? = some b ∧ H t = some (.tup (b.map V.str)) ∧ (∀ z ∈ b, Pln z) ∧ b ≠ []) :
    LRep H0 (upd H a (.lst (ts'.map V.ref))) a d aw aj gb { ls with stk := stk' } ts' T :=
  { R with
    S := ⟨upd_same, hl, fun i t e => let ⟨b, e1, e2, r⟩ := ht i t e; ⟨b, e1, by rw [upd_ne (ne_of e2 R.S.at_ (by intro z; cases z))]; exact e2, r⟩, Nat.le_trans hf R.z6⟩
    D := ⟨by rw [upd_ne (R.dne R.S.at_)]; exact R.D.at_, by rw [upd_ne R.n1.symm]; exact R.D.w, by rw [upd_ne R.n2.symm]; exact R.D.j⟩
    b := by rw [upd_ne R.n3.symm]; exact R.b
    base := base_upd R.base R.f1
    z1 := hf }
theorem LRep.push (R : LRep H0 H a d aw aj gb ls ts T) (b : List Str) (t : Addr) (h : H t = some (.tup (b.map V.str))) (hp : ∀ z ∈ b, Pln z) (hne : b ≠ []) (hf : ls.stk.length + 1 ≤ T) :
    LRep H0 (upd H a (.lst ((ts ++ [t]).map V.ref))) a d aw aj gb { ls with stk := ls.stk ++ [b] } (ts ++ [t]) T :=
  R.stk (ls.stk ++ [b]) (ts ++ [t]) (by rw [List.length_append, List.length_append, R.S.len]; rfl) (by rw [List.length_append]; exact hf)
    (fun i u e => by
      by_cases hi : i < ts.length
      · rw [List.getElem?_append_left hi] at e
        obtain ⟨b', e1, r⟩ := R.S.tup i u e
        exact ⟨b', by rw [List.getElem?_append_left (by rw [← R.S.len]; exact hi)]; exact e1, r⟩
      · rw [List.getElem?_append_right (by omega)] at e
        have hz : i - ts.length = 0 := by
          cases q : i - ts.length with
          | zero => rfl
          | succ m => rw [q] at e; cases e
        rw [hz] at e
        obtain rfl : t = u := Option.some.inj e
        exact ⟨b, by rw [List.getElem?_append_right (by rw [← R.S.len]; omega), ← R.S.len, hz]; rfl, h, hp, hne⟩)
theorem LRep.pop (R : LRep H0 H a d aw aj gb ls ts T) : LRep H0 (upd H a (.lst (ts.dropLast.map V.ref))) a d aw aj gb { ls with stk := ls.stk.dropLast } ts.dropLast T :=
  R.stk ls.stk.dropLast ts.dropLast (by rw [List.length_dropLast, List.length_dropLast, R.S.len]) (by rw [List.length_dropLast]; exact Nat.le_trans (Nat.sub_le _ _) R.z1)
    (fun i t e => by
      rw [List.dropLast_eq_take, List.getElem?_take] at e
      split at e
      · rename_i hi
        obtain ⟨b, e1, r⟩ := R.S.tup i t e
        exact ⟨b, by rw [List.dropLast_eq_take, List.getElem?_take, if_pos (by rw [← R.S.len]; exact hi)]; exact e1, r⟩
      · cases e)
end
/-- what the stack keeps to: definitions are told by two words; at the bottom stands a definition -/
structure Wf (ls : LSt) : Prop where
  two : ∀ b ∈ ls.stk, (b.getD 0 "" = "walk" ∨ b.getD 0 "" = "job") → 2 ≤ b.length
  hd : ∀ b r, ls.stk = b :: r → (b.getD 0 "" = "walk" ∨ b.getD 0 "" = "job")
theorem bad_begin {stk : List (List Str)} {tw tj ps : List Str} (hb : lBad stk tw tj ps = false) (e : ps.getD 0 "" = "begin") : ps.length = 2 := by
  unfold lBad at hb
  rw [e, if_neg (by decide +kernel)] at hb
  rw [show (["end", "late", "mend", "pause", "guard", "give"] : List Str).any (· == ("begin" : Str)) = false by decide +kernel, Bool.false_and, Bool.or_false] at hb
  cases h : stk.isEmpty with
  | true => rw [h] at hb; cases hb
  | false =>
    rw [h, if_neg Bool.false_ne_true, show (["end", "late", "mend"] : List Str).any (· == ("begin" : Str)) = false by decide +kernel, if_neg Bool.false_ne_true,
      show (["pause", "guard"] : List Str).any (· == ("begin" : Str)) = false by decide +kernel, if_neg Bool.false_ne_true, if_neg (by decide +kernel), show (["say", "wait", "open", "begin", "fail"] : List Str).any (· == ("begin" : Str)) = true by decide +kernel, if_pos rfl] at hb
    have := (Bool.or_eq_false_iff.mp hb).1
    simpa using this
theorem bad_define {stk : List (List Str)} {tw tj ps : List Str} (hb : lBad stk tw tj ps = false) (e : ps.getD 0 "" = "walk" ∨ ps.getD 0 "" = "job") : stk = [] ∧ ps.length = 2 := by
  unfold lBad at hb
  rw [if_pos e] at hb
  obtain ⟨h1, h2⟩ := Bool.or_eq_false_iff.mp hb
  obtain ⟨h3, _⟩ := Bool.or_eq_false_iff.mp h2
  refine ⟨?_, by simpa using h3⟩
  cases stk with
  | nil => rfl
  | cons a b => simp at h1
theorem bad_block {stk : List (List Str)} {tw tj ps : List Str} (hb : lBad stk tw tj ps = false) (e : ¬ (ps.getD 0 "" = "walk" ∨ ps.getD 0 "" = "job")) : stk ≠ [] := by
  unfold lBad at hb
  rw [if_neg e] at hb
  rintro rfl
  rw [if_pos (by rfl)] at hb
  cases hb
theorem bad_ends {stk : List (List Str)} {tw tj ps : List Str} (hb : lBad stk tw tj ps = false) (e : endsL.any (· == ps.getD 0 "") = true) : decide (lTop stk = "guard") ≠ decide (ps.getD 0 "" = "end") := by
  have hw : ps.getD 0 "" = "late" ∨ ps.getD 0 "" = "mend" ∨ ps.getD 0 "" = "end" := by
    unfold endsL at e
    simp only [List.any_cons, List.any_nil, Bool.or_false, Bool.or_eq_true, beq_iff_eq] at e
    rcases e with e | e | e
    · exact .inl e.symm
    · exact .inr (.inl e.symm)
    · exact .inr (.inr e.symm)
  have nd : ¬ (ps.getD 0 "" = "walk" ∨ ps.getD 0 "" = "job") := by
    rcases hw with h | h | h <;> (rw [h]; decide +kernel)
  have hin : (["end", "late", "mend"] : List Str).any (· == ps.getD 0 "") = true := by
    rcases hw with h | h | h <;> (rw [h]; decide +kernel)
  unfold lBad at hb
  rw [if_neg nd] at hb
  split at hb
  · cases hb
  · intro z
    rw [z] at hb
    simp at hb
theorem getD_last (r : List (List Str)) (g : List Str) : lTop (r ++ [g]) = g.getD 0 "" := by
  unfold lTop
  rw [List.getLast?_concat]
theorem wf_start : Wf lStart := ⟨fun b h => (by cases h), fun b r h => (by cases h)⟩
theorem ends_not {w : Str} (e : endsL.any (· == w) = true) : opensL.any (· == w) = false ∧ ¬ (w = "walk" ∨ w = "job") ∧ w ≠ "begin" := by
  unfold endsL at e
  simp only [List.any_cons, List.any_nil, Bool.or_false, Bool.or_eq_true, beq_iff_eq] at e
  rcases e with e | e | e <;> (rw [← e]; exact ⟨by decide +kernel, by decide +kernel, by decide +kernel⟩)
theorem wf_keep {ls : LSt} {ps : List Str} (W : Wf ls) (hb : lBad ls.stk ls.tw ls.tj ps = false) : Wf (lStep ls ps) := by
  have W1 : Wf (if ps.getD 0 "" = "begin" then { ls with bg := ls.bg ++ [ps.getD 1 ""] } else ls) := by
    split
    · exact ⟨W.two, W.hd⟩
    · exact W
  have hstk : (if ps.getD 0 "" = "begin" then { ls with bg := ls.bg ++ [ps.getD 1 ""] } else ls).stk = ls.stk := by split <;> rfl
  unfold lStep
  generalize (if ps.getD 0 "" = "begin" then { ls with bg := ls.bg ++ [ps.getD 1 ""] } else ls) = ls1 at W1 hstk ⊢
  have hg0 : (ps.take 3).getD 0 "" = ps.getD 0 "" := by cases ps <;> rfl
  have W2 : Wf (lOpen ls1 ps) := by
    unfold lOpen
    split
    · refine ⟨fun b hbm hd => ?_, fun b r e => ?_⟩
      · rcases List.mem_append.mp hbm with h | h
        · exact W1.two b h hd
        · obtain rfl := List.mem_singleton.mp h
          rw [hg0] at hd
          have := (bad_define hb hd).2
          rw [List.length_take, this]
          decide
      · have e : ls1.stk ++ [ps.take 3] = b :: r := e
        cases hs : ls1.stk with
        | nil =>
          rw [hs] at e
          obtain ⟨rfl, _⟩ := List.cons.inj e
          rw [hg0]
          by_cases c : ps.getD 0 "" = "walk" ∨ ps.getD 0 "" = "job"
          · exact c
          · exact absurd (hstk ▸ hs) (bad_block hb c)
        | cons b' r' =>
          rw [hs] at e
          obtain ⟨rfl, _⟩ := List.cons.inj e
          exact W1.hd _ _ hs
    · exact W1
  cases he : endsL.any (· == ps.getD 0 "") with
  | false =>
    unfold lClose
    rw [he]
    exact W2
  | true =>
    obtain ⟨ho, nd, nb⟩ := ends_not he
    have hs2 : (lOpen ls1 ps).stk = ls.stk := by
      unfold lOpen
      rw [ho]
      exact hstk
    have hne := bad_ends hb he
    generalize lOpen ls1 ps = ls2 at W2 hs2 ⊢
    have key : Wf { ls2 with stk := ls2.stk.dropLast ++ (if ps.getD 0 "" = "end" then [] else [[ps.getD 0 ""]]) } := by
      refine ⟨fun b hbm hd => ?_, fun b r e => ?_⟩
      · rcases List.mem_append.mp hbm with h | h
        · exact W2.two b (by rw [List.dropLast_eq_take] at h; exact List.mem_of_mem_take h) hd
        · split at h
          · cases h
          · obtain rfl := List.mem_singleton.mp h
            exact absurd hd nd
      · have e : ls2.stk.dropLast ++ (if ps.getD 0 "" = "end" then [] else [[ps.getD 0 ""]]) = b :: r := e
        cases hd : ls2.stk.dropLast with
        | cons b' r' =>
          rw [hd] at e
          obtain ⟨rfl, _⟩ := List.cons.inj e
          cases hs : ls2.stk with
          | nil => rw [hs] at hd; cases hd
          | cons x y =>
            rw [hs] at hd
            cases y with
            | nil => cases hd
            | cons y ys =>
              obtain ⟨rfl, _⟩ := List.cons.inj hd
              exact W2.hd _ _ hs
        | nil =>
          rw [hd] at e
          by_cases ce : ps.getD 0 "" = "end"
          · rw [if_pos ce] at e
            cases e
          · exfalso
            cases hs : ls2.stk with
            | nil => exact absurd (hs2 ▸ hs) (bad_block hb nd)
            | cons x y =>
              cases y with
              | cons y ys => rw [hs] at hd; cases hd
              | nil =>
                have h1 := W2.hd _ _ hs
                rw [← hs2, hs, show lTop [x] = x.getD 0 "" from rfl, decide_eq_false ce] at hne
                have h2 : x.getD 0 "" = "guard" := by
                  by_cases c : x.getD 0 "" = "guard"
                  · exact c
                  · exact absurd (decide_eq_false c) hne
                rw [h2] at h1
                exact absurd h1 (by decide +kernel)
    unfold lClose
    rw [he, if_pos rfl]
    dsimp only
    generalize (if ps.getD 0 "" = "end" then ([] : List (List Str)) else [[ps.getD 0 ""]]) = ext at key ⊢
    split
    · split
      · exact ⟨key.two, key.hd⟩
      · exact ⟨key.two, key.hd⟩
    · exact key
theorem step_nnil {K : PySem.W.Frag} {σ : L2.St} {H : Hp} {QQ : Bool → Hp → Prop} {a : Addr} {stk : List (List Str)} {ts : List Addr} (hS : StkAt H a stk ts) (h : ∀ H', Same H H' → QQ (!stk.isEmpty) H') :
    tLst tNil σ H (fun y H2 => rNeD K (.ref a) y H2 fun x H' => ∃ k, x = .bl k ∧ QQ k H') := by
  refine ⟨by show 0 ≤ sizeLine; decide, fun p hp => ?_⟩
  have s1 := same_new (o := .lst []) hp
  obtain ⟨dp, sh⟩ := (hS.same s1).dp (K := K)
  refine ⟨_, .list [], dp, .lst (SqL.of upd_same) .nil, sh, by rfl, _, rfl, ?_⟩
  rw [stk_nil]
  exact h _ s1
theorem sizes_pick (ls : LSt) (n : Nat) : ([("rows", decide (100 < n)), ("jobs", decide (6 < ls.tj.length)), ("walks", decide (6 < ls.tw.length)), ("deep", decide (6 < ls.dp)), ("none", true)] : List (Str × Bool)).find? (·.2) = some (lSizes ls n, true) := by
  unfold lSizes
  by_cases h1 : 100 < n
  · rw [if_pos h1, decide_eq_true h1]
    rfl
  rw [if_neg h1, decide_eq_false h1]
  by_cases h2 : 6 < ls.tj.length
  · rw [if_pos h2, decide_eq_true h2]
    rfl
  rw [if_neg h2, decide_eq_false h2]
  by_cases h3 : 6 < ls.tw.length
  · rw [if_pos h3, decide_eq_true h3]
    rfl
  rw [if_neg h3, decide_eq_false h3]
  by_cases h4 : 6 < ls.dp
  · rw [if_pos h4, decide_eq_true h4]
    rfl
  rw [if_neg h4, decide_eq_false h4]
  rfl
theorem cut3 (xs : List Str) : cutV (xs.map V.str) none (some 3) = (xs.take 3).map V.str := by
  unfold cutV
  rw [HT.sIx_none, show (some 3 : Option Int) = some ((3 : Nat) : Int) from rfl, HT.sIx_nat, List.drop_zero, Nat.sub_zero, List.map_take, List.length_map]
  by_cases h : 3 ≤ xs.length
  · rw [Nat.min_eq_left h]
  · rw [Nat.min_eq_right (by omega), List.take_of_length_le (by rw [List.length_map]; exact Nat.le_refl _), List.take_of_length_le (by rw [List.length_map]; omega)]
section
variable {P : Program} {w : World} {K : PySem.W.Frag} {mg : Str → Option Value} {base : Heap}
theorem told_merge (x y : V) : mergeK [] [((Sum.inr ("walk" : Str) : L2.Key), x), (Sum.inr ("job" : Str), y)] = [((Sum.inr ("walk" : Str) : L2.Key), x), (Sum.inr ("job" : Str), y)] := by kernel_rfl
def spDue (K : PySem.W.Frag) : Sp := fun vs H Q _ => ∃ text : Str, vs = [.str text] ∧ text.length ≤ 90000 ∧ (Txt.split text "\n").length ≤ 900 ∧ (∀ r ∈ Txt.split text "\n", ∀ z ∈ Txt.split r " ", Pln z) ∧
  ∀ H' t, Same H H' → SqT K H' t [.str (lDue (Txt.split text "\n")).1, (lDue (Txt.split text "\n")).2] → Q (.ref t) H'
abbrev dueN : List Str := ["_law_text", "_law_stack", "_law_told", "_law_begun", "_law_deepest", "_law_rows", "_law_at", "_law_row", "_law_parts", "_law_gone", "_law_name", "_law_sizes", "_law_word", "_law_is_so"]
end
end Ly
end
section
set_option Elab.async false
set_option linter.all false
set_option maxRecDepth 100000
namespace Ly
open PySem PySem.Spec PyProof.Rows L2
theorem pln_getD {ps : List Str} (h : ∀ z ∈ ps, Pln z) (i : Nat) : Pln (ps.getD i "") := by
  rw [List.getD_eq_getElem?_getD]
  cases e : ps[i]? with
  | none => exact (by decide +kernel : PyData.strOk "" = true)
  | some z => exact h z (List.mem_of_getElem? e)
theorem close_bg (ls : LSt) (w : Str) : (lClose ls w).bg = ls.bg := by
  unfold lClose
  dsimp only
  generalize (if w = "end" then ([] : List (List Str)) else [[w]]) = e
  repeat' split
  all_goals rfl
theorem open_bg (ls : LSt) (ps : List Str) : (lOpen ls ps).bg = ls.bg := by
  unfold lOpen
  split <;> rfl
theorem step_bg {ls : LSt} {ps : List Str} (h : ∀ z ∈ ls.bg, Pln z) (hp : ∀ z ∈ ps, Pln z) : ∀ z ∈ (lStep ls ps).bg, Pln z := by
  have e : (lStep ls ps).bg = if ps.getD 0 "" = "begin" then ls.bg ++ [ps.getD 1 ""] else ls.bg := by
    unfold lStep
    rw [close_bg, open_bg]
    split <;> rfl
  rw [e]
  intro z hz
  split at hz
  · rcases List.mem_append.mp hz with q | q
    · exact h z q
    · obtain rfl := List.mem_singleton.mp q
      exact pln_getD hp 1
  · exact h z hz
theorem go_bg : ∀ (rows : List Str) (i : Nat) (ls ls' : LSt), (∀ r ∈ rows, ∀ z ∈ Txt.split r " ", Pln z) → (∀ z ∈ ls.bg, Pln z) → lGo rows i ls = .ok ls' → ∀ z ∈ ls'.bg, Pln z
  | [], _, ls, ls', _, h, e => by
    obtain rfl : ls = ls' := Except.ok.inj e
    exact h
  | r :: rs, i, ls, ls', hr, h, e => by
    unfold lGo at e
    split at e
    · cases e
    · exact go_bg rs (i + 1) _ ls' (fun q hq => hr q (List.mem_cons_of_mem _ hq)) (step_bg h (hr r (List.mem_cons_self ..))) e
theorem sizes_pln (ls : LSt) (n : Nat) : Pln (lSizes ls n) := by
  unfold lSizes
  repeat' split
  all_goals (show PyData.strOk _ = true; decide +kernel)
theorem due_kind (rows : List Str) (h : ∀ r ∈ rows, ∀ z ∈ Txt.split r " ", Pln z) : (∃ i : Int, lDue rows = (("row" : Str), V.int i)) ∨ ∃ w z, lDue rows = (w, V.str z) ∧ Pln w ∧ Pln z := by
  unfold lDue
  split
  · exact .inl ⟨_, rfl⟩
  · rename_i ls e
    split
    · exact .inl ⟨_, rfl⟩
    · split
      · rename_i z hz
        refine .inr ⟨_, z, rfl, (by decide +kernel : PyData.strOk "unknown" = true), ?_⟩
        rcases List.mem_cons.mp (List.mem_of_find?_eq_some hz) with q | q
        · subst q
          exact (by decide +kernel : PyData.strOk "main" = true)
        · exact go_bg rows 0 lStart ls h (fun z hz => by cases hz) e z q
      · exact .inr ⟨_, _, rfl, (by decide +kernel : PyData.strOk "many" = true), sizes_pln _ _⟩
def dueHeard (text : Str) : Str × V := if lDue (Txt.split text "\n") = (("many" : Str), V.str "none") then (("read" : Str), V.str text) else lDue (Txt.split text "\n")
section
variable {P : Program} {w : World} {K : PySem.W.Frag} {mg : Str → Option Value} {base : Heap}
def spDueH (K : PySem.W.Frag) : Sp := fun vs H Q _ => ∃ text : Str, vs = [.str text] ∧ text.length ≤ 90000 ∧ (Txt.split text "\n").length ≤ 900 ∧ (∀ r ∈ Txt.split text "\n", ∀ z ∈ Txt.split r " ", Pln z) ∧
  ∀ H' t, Same H H' → SqT K H' t [.str (dueHeard text).1, (dueHeard text).2] → Q (.ref t) H'
end
end Ly
end
section
set_option Elab.async false
set_option linter.all false
set_option maxRecDepth 100000
/-! What the reader says against what the law expects: from one row to the whole text. -/
namespace Ly
open PySem PySem.Spec PyProof.Rows L2
/-- what reader and law hold in common -/
structure Alike (st : RS) (ls : LSt) : Prop where
  stk : st.around = [] ↔ ls.stk = []
  jobs : st.jobs.map (·.1) = ls.tj
  walks : st.walks.map (·.1) = ls.tw
  begun : st.begun = ls.bg
  deep : st.deepest = ls.dp
/-- one row keeps R: both refuse, or both take it -/
def StepKeeps (R : RS → LSt → Prop) : Prop := ∀ (st : RS) (ls : LSt) (row : Str), R st ls →
  (takeM st (Txt.split row " ") = none ∧ lBad ls.stk ls.tw ls.tj (Txt.split row " ") = true) ∨
  ∃ st', takeM st (Txt.split row " ") = some st' ∧ lBad ls.stk ls.tw ls.tj (Txt.split row " ") = false ∧ R st' (lStep ls (Txt.split row " "))
theorem go_alike {R : RS → LSt → Prop} (hs : StepKeeps R) : ∀ (rows : List Str) (i : Nat) (st : RS) (ls : LSt), R st ls →
    (∃ j, goM rows i st = .error j ∧ lGo rows i ls = .error j) ∨ ∃ st' ls', goM rows i st = .ok st' ∧ lGo rows i ls = .ok ls' ∧ R st' ls'
  | [], i, st, ls, h => .inr ⟨st, ls, rfl, rfl, h⟩
  | r :: rs, i, st, ls, h => by
    rcases hs st ls r h with ⟨h1, h2⟩ | ⟨st', h1, h2, h3⟩
    · refine .inl ⟨i, ?_, ?_⟩
      · unfold goM
        rw [h1]
      · unfold lGo
        rw [h2, if_pos rfl]
    · unfold goM lGo
      rw [h1, h2, if_neg Bool.false_ne_true]
      exact go_alike hs rs (i + 1) st' _ h3
theorem hasN_any (js : List (Str × Nat)) (z : Str) : hasN js z = (js.map (·.1)).any (· == z) := by
  unfold hasN
  rw [List.any_map]
  congr 1
theorem due_other {text : Str} {d : Str × V} (e : lDue (Txt.split text "\n") = d) (h : d ≠ (("many" : Str), V.str "none")) : dueHeard text = d := by
  unfold dueHeard
  rw [e, if_neg h]
theorem due_read {text : Str} (e : lDue (Txt.split text "\n") = (("many" : Str), V.str "none")) : dueHeard text = (("read" : Str), V.str text) := by
  unfold dueHeard
  rw [e, if_pos rfl]
theorem heard_row {text : Str} {i : Nat} (e : readM (Txt.split text "\n") = .error (.row i)) : heardM text = (("row" : Str), V.int (i : Int)) := by unfold heardM; rw [e]
theorem heard_unk {text z : Str} (e : readM (Txt.split text "\n") = .error (.unk z)) : heardM text = (("unknown" : Str), V.str z) := by unfold heardM; rw [e]
theorem heard_many {text z : Str} (e : readM (Txt.split text "\n") = .error (.many z)) : heardM text = (("many" : Str), V.str z) := by unfold heardM; rw [e]
theorem heard_read {text : Str} {st : RS} (e : readM (Txt.split text "\n") = .ok st) : heardM text = (("read" : Str), V.str text) := by unfold heardM; rw [e]
theorem heard_of {R : RS → LSt → Prop} (hs : StepKeeps R) (h0 : R RS.start lStart) (ha : ∀ st ls, R st ls → Alike st ls) (text : Str) : heardM text = dueHeard text := by
  rcases go_alike hs (Txt.split text "\n") 0 _ _ h0 with ⟨j, h1, h2⟩ | ⟨st, ls, h1, h2, h3⟩
  · have e1 : readM (Txt.split text "\n") = .error (.row j) := by unfold readM; rw [h1]
    have e2 : lDue (Txt.split text "\n") = (("row" : Str), V.int (j : Int)) := by unfold lDue; rw [h2]
    rw [heard_row e1, due_other e2 (by intro h; cases (Prod.mk.inj h).2)]
  have A := ha st ls h3
  have e1 : readM (Txt.split text "\n") = endRows st (Txt.split text "\n").length := by unfold readM; rw [h1]
  have e2 : lDue (Txt.split text "\n") = if ls.stk.isEmpty = false then (("row" : Str), V.int ((Txt.split text "\n").length : Int)) else match ((("main" : Str) :: ls.bg).find? fun z => !ls.tj.any (· == z)) with
    | some z => (("unknown" : Str), V.str z)
    | none => (("many" : Str), V.str (lSizes ls (Txt.split text "\n").length)) := by first | (unfold lDue; rw [h2]; done) | (unfold lDue; rw [h2]; dsimp only; split <;> first | rfl | (split <;> simp_all))
  generalize (Txt.split text "\n").length = n at e1 e2
  by_cases c : st.around = []
  · have c2 : ls.stk.isEmpty = true := by rw [A.stk.mp c]; rfl
    rw [c2, if_neg (by decide)] at e2
    unfold endRows at e1
    rw [if_neg (fun h => h c)] at e1
    have hn : namesM st = ((("main" : Str) :: ls.bg).find? fun z => !ls.tj.any (· == z)) := by
      unfold namesM
      rw [A.begun, ← A.jobs]
      congr 1
      funext z
      rw [hasN_any]
    rw [hn] at e1
    cases hf : ((("main" : Str) :: ls.bg).find? fun z => !ls.tj.any (· == z)) with
    | some z =>
      rw [hf] at e1 e2
      rw [heard_unk e1, due_other e2 (by intro h; exact absurd (Prod.mk.inj h).1 (by decide +kernel))]
    | none =>
      rw [hf] at e1 e2
      have ej : st.jobs.length = ls.tj.length := by rw [← A.jobs, List.length_map]
      have ew : st.walks.length = ls.tw.length := by rw [← A.walks, List.length_map]
      unfold limitsM at e1
      unfold lSizes at e2
      rw [ej, ew, A.deep] at e1
      by_cases c1 : 100 < n
      · rw [if_pos c1] at e1 e2
        rw [heard_many e1, due_other e2 (by intro h; exact absurd (V.str.inj (Prod.mk.inj h).2) (by decide +kernel))]
      rw [if_neg c1] at e1 e2
      by_cases c2 : 6 < ls.tj.length
      · rw [if_pos c2] at e1 e2
        rw [heard_many e1, due_other e2 (by intro h; exact absurd (V.str.inj (Prod.mk.inj h).2) (by decide +kernel))]
      rw [if_neg c2] at e1 e2
      by_cases c3 : 6 < ls.tw.length
      · rw [if_pos c3] at e1 e2
        rw [heard_many e1, due_other e2 (by intro h; exact absurd (V.str.inj (Prod.mk.inj h).2) (by decide +kernel))]
      rw [if_neg c3] at e1 e2
      by_cases c4 : 6 < ls.dp
      · rw [if_pos c4] at e1 e2
        rw [heard_many e1, due_other e2 (by intro h; exact absurd (V.str.inj (Prod.mk.inj h).2) (by decide +kernel))]
      rw [if_neg c4] at e1 e2
      rw [heard_read e1, due_read e2]
  · have c2 : ls.stk.isEmpty = false := by
      cases h : ls.stk with
      | nil => exact absurd (A.stk.mpr h) c
      | cons a b => rfl
    rw [if_pos c2] at e2
    unfold endRows at e1
    rw [if_pos c] at e1
    rw [heard_row e1, due_other e2 (by intro h; cases (Prod.mk.inj h).2)]
end Ly
end
section
set_option Elab.async false
set_option linter.all false
set_option maxRecDepth 100000
/-! The law's sorts of parts are the reader's. -/
namespace Ly
open PySem PySem.Spec PyProof.Rows L2
theorem lt_one (a b : Nat) : decide (([a] : List Nat) < [b]) = decide (a < b) := decide_eq_decide.mpr (by
  constructor
  · intro h
    cases h with
    | rel h => exact h
    | cons h => cases h
  · intro h
    exact List.Lex.rel h)
theorem figs_eq : (("123456789" : Str).cps.toList.map fun c => (⟨#[c]⟩ : Str)) = [⟨#[49]⟩, ⟨#[50]⟩, ⟨#[51]⟩, ⟨#[52]⟩, ⟨#[53]⟩, ⟨#[54]⟩, ⟨#[55]⟩, ⟨#[56]⟩, ⟨#[57]⟩] := by kernel_rfl
theorem one_eq (a b : Nat) : ((⟨#[a]⟩ : Str) == ⟨#[b]⟩) = decide (a = b) := by
  by_cases h : a = b
  · rw [h, decide_eq_true rfl]
    exact beq_self_eq_true _
  · rw [decide_eq_false h, beq_eq_false_iff_ne]
    intro z
    exact h (by
      have := congrArg (fun s : Str => s.cps.toList) z
      exact (List.cons.inj this).1)
theorem figure_any (z : Str) : (("123456789" : Str).cps.toList.map fun c => (⟨#[c]⟩ : Str)).any (· == z) = isFigure z := by
  rw [figs_eq]
  unfold isFigure
  by_cases h : z.length = 1
  · obtain ⟨c, rfl⟩ : ∃ c, z = ⟨#[c]⟩ := by
      obtain ⟨⟨l⟩⟩ := z
      have h : l.length = 1 := h
      match l, h with
      | [c], _ => exact ⟨c, rfl⟩
    show _ = (true && !decide (([c] : List Nat) < [49]) && !decide (([57] : List Nat) < [c]))
    rw [lt_one, lt_one]
    simp only [List.any_cons, List.any_nil, one_eq]
    rw [Bool.eq_iff_iff]
    simp only [Bool.or_eq_true, decide_eq_true_eq, Bool.and_eq_true, Bool.not_eq_true', decide_eq_false_iff_not, Bool.or_false, Bool.true_and]
    omega
  · rw [show (z.length == 1) = false from beq_eq_false_iff_ne.mpr h, Bool.false_and, Bool.false_and]
    simp only [List.any_cons, List.any_nil, Bool.or_false, Bool.or_eq_false_iff, beq_eq_false_iff_ne]
    refine ⟨?_, ?_, ?_, ?_, ?_, ?_, ?_, ?_, ?_⟩ <;> (rintro rfl; exact h rfl)
theorem form_of {w : Str} {tl f : List Str} (e : formOf w = some f) (h : w ≠ "each") : hasForm (w :: tl) = ((tl.length == f.length) && (tl.zip f).all fun q => ofSort q.1 q.2) := by
  unfold hasForm formFor
  rw [show (w :: tl).headD "" = w from rfl, e]
  show (((w :: tl).length == (if w = "each" ∧ (w :: tl).length = 4 then eachL else f).length + 1) && ((tl.zip (if w = "each" ∧ (w :: tl).length = 4 then eachL else f)).all fun q => ofSort q.1 q.2)) = _
  rw [if_neg (fun z => h z.1)]
  congr 1
  rw [List.length_cons]
  rw [Bool.eq_iff_iff]
  simp
theorem form_none {w : Str} {tl : List Str} (e : formOf w = none) : hasForm (w :: tl) = false := by
  unfold hasForm formFor
  rw [show (w :: tl).headD "" = w from rfl, e]
  rfl
theorem form0 {w : Str} {tl : List Str} (e : formOf w = some []) (h : w ≠ "each") : hasForm (w :: tl) = (tl.length == 0) := by
  rw [form_of e h, List.zip_nil_right]
  simp
theorem form1 {w s : Str} {tl : List Str} (e : formOf w = some [s]) (h : w ≠ "each") : hasForm (w :: tl) = ((tl.length == 1) && ofSort (tl.getD 0 "") s) := by
  rw [form_of e h]
  match tl with
  | [] => rfl
  | [x] => simp
  | x :: y :: r => simp
theorem sort_name (z : Str) : ofSort z "name" = isName z := if_pos rfl
theorem sort_how (z : Str) : ofSort z "how" = isHow z := by
  unfold ofSort
  rw [if_neg (by decide +kernel), if_pos rfl]
theorem sort_figure (z : Str) : ofSort z "figure" = isFigure z := by
  unfold ofSort
  rw [if_neg (by decide +kernel), if_neg (by decide +kernel)]
theorem form_each {tl : List Str} : hasForm (("each" : Str) :: tl) = (((tl.length == 2) && (isName (tl.getD 0 "") && isHow (tl.getD 1 ""))) || ((tl.length == 3) && (isName (tl.getD 0 "") && (isHow (tl.getD 1 "") && isFigure (tl.getD 2 ""))))) := by
  have e : formOf "each" = some [("name" : Str), ("how" : Str)] := by kernel_rfl
  unfold hasForm formFor
  rw [show (("each" : Str) :: tl).headD "" = "each" from rfl, e]
  show (((("each" : Str) :: tl).length == (if ("each" : Str) = "each" ∧ (("each" : Str) :: tl).length = 4 then eachL else [("name" : Str), ("how" : Str)]).length + 1) && ((tl.zip (if ("each" : Str) = "each" ∧ (("each" : Str) :: tl).length = 4 then eachL else [("name" : Str), ("how" : Str)])).all fun q => ofSort q.1 q.2)) = _
  match tl with
  | [] => rfl
  | [x] => rfl
  | [x, y] =>
    rw [if_neg (by intro h; exact absurd h.2 (by simp))]
    simp [sort_name, sort_how]
  | [x, y, z] =>
    rw [if_pos ⟨rfl, rfl⟩]
    simp [eachL, sort_name, sort_how, sort_figure]
  | x :: y :: z :: u :: r =>
    rw [if_neg (by intro h; exact absurd h.2 (by simp))]
    simp
end Ly
end
section
set_option Elab.async false
set_option linter.all false
set_option maxRecDepth 100000
/-! The reader's open rows and the law's blocks. -/
namespace Ly
open PySem PySem.Spec PyProof.Rows L2
/-- a node that is open, as the law's block -/
structure BlkAt (n : Node) (b : List Str) : Prop where
  op : opensL.any (· == n.word) = true
  md : n.mark = "" ∨ n.word = "guard" ∧ (n.mark = "late" ∨ n.mark = "mend")
  b0 : n.mark = "" → b.getD 0 "" = n.word
  b1 : n.mark = "" → (n.word = "walk" ∨ n.word = "job") → b.getD 1 "" = n.name
  be : n.mark = "" → n.word = "each" → b = [("each" : Str), n.name, n.how]
  bm : n.mark ≠ "" → b = [n.mark]
  bh : n.word ≠ "each" → n.how = ""
structure Rel (st : RS) (ls : LSt) : Prop where
  len : ls.stk.length = st.around.length
  lt : ∀ i ∈ st.around, i < st.ns.length
  nd : st.around.Nodup
  blk : ∀ (j i : Nat) (b : List Str), st.around[j]? = some i → ls.stk[j]? = some b → BlkAt (st.node i) b
  dfn : ∀ (j i : Nat), st.around[j]? = some i → (((st.node i).word = "walk" ∨ (st.node i).word = "job") ↔ j = 0)
  new : ∀ i : Nat, st.around[0]? = some i → hasN (if (st.node i).word = "job" then st.jobs else st.walks) (st.node i).name = false
  jobs : st.jobs.map (·.1) = ls.tj
  walks : st.walks.map (·.1) = ls.tw
  begun : st.begun = ls.bg
  deep : st.deepest = ls.dp
  nmw : ∀ z ∈ ls.tw, isName z = true
  nmo : ∀ i : Nat, st.around[0]? = some i → isName (st.node i).name = true
theorem opens_not {w : Str} (e : opensL.any (· == w) = true) : w ≠ "late" ∧ w ≠ "mend" ∧ w ≠ "" ∧ w ≠ "end" := by
  unfold opensL at e
  simp only [List.any_cons, List.any_nil, Bool.or_false, Bool.or_eq_true, beq_iff_eq] at e
  rcases e with e | e | e | e | e <;> (rw [← e]; exact ⟨by decide +kernel, by decide +kernel, by decide +kernel, by decide +kernel⟩)
theorem BlkAt.late {n : Node} {b : List Str} (h : BlkAt n b) : decide (n.mark = "late") = (b == [("late" : Str)]) := by
  by_cases c : n.mark = ""
  · rw [decide_eq_false (by rw [c]; decide +kernel)]
    refine (beq_eq_false_iff_ne.mpr fun z => ?_).symm
    have := h.b0 c
    rw [z] at this
    exact (opens_not h.op).1 this.symm
  · rw [h.bm c]
    by_cases d : n.mark = "late"
    · rw [decide_eq_true d, d]
      exact (beq_self_eq_true _).symm
    · rw [decide_eq_false d]
      exact (beq_eq_false_iff_ne.mpr fun z => d (List.cons.inj z).1).symm
theorem BlkAt.kept {n : Node} {b : List Str} (h : BlkAt n b) (w : Str) : keepsM n w = (b == [("each" : Str), w, "kept"]) := by
  have hh := h.bh
  have hne : ∀ z : List Str, (b == z) = decide (b = z) := fun z => by
    by_cases e : b = z
    · rw [e, decide_eq_true rfl]; exact beq_self_eq_true _
    · rw [decide_eq_false e]; exact beq_eq_false_iff_ne.mpr e
  unfold keepsM
  rw [hne]
  by_cases c : n.mark = ""
  · by_cases d : n.word = "each"
    · rw [h.be c d]
      by_cases e1 : n.how = "kept"
      · by_cases e2 : n.name = w
        · rw [e1, e2]; simp
        · rw [decide_eq_false e2, Bool.and_false]
          exact (decide_eq_false fun z => e2 (List.cons.inj (List.cons.inj z).2).1).symm
      · rw [decide_eq_false e1, Bool.false_and]
        exact (decide_eq_false fun z => e1 (List.cons.inj (List.cons.inj (List.cons.inj z).2).2).1).symm
    · rw [hh d, decide_eq_false (by decide +kernel), Bool.false_and]
      refine (decide_eq_false fun z => d ?_).symm
      rw [← h.b0 c, z]
      rfl
  · rcases h.md with q | ⟨q1, q2⟩
    · exact absurd q c
    · rw [hh (by rw [q1]; decide +kernel), decide_eq_false (by decide +kernel), Bool.false_and, h.bm c]
      exact (decide_eq_false fun z => by cases (List.cons.inj z).2).symm
theorem BlkAt.guard {n : Node} {b : List Str} (h : BlkAt n b) : (b.getD 0 "" = "guard") ↔ (n.word = "guard" ∧ n.mark = "") := by
  by_cases c : n.mark = ""
  · rw [h.b0 c]
    exact ⟨fun z => ⟨z, c⟩, fun z => z.1⟩
  · rw [h.bm c]
    refine ⟨fun z => ?_, fun z => absurd z.2 c⟩
    have z : n.mark = "guard" := z
    rcases h.md with q | ⟨_, q | q⟩
    · exact absurd q c
    · rw [q] at z; exact absurd z (by decide +kernel)
    · rw [q] at z; exact absurd z (by decide +kernel)
section
variable {st : RS} {ls : LSt}
theorem Rel.alike (R : Rel st ls) : Alike st ls where
  stk := by
    have := R.len
    constructor
    · intro h
      rw [h] at this
      exact List.eq_nil_of_length_eq_zero this
    · intro h
      rw [h] at this
      exact List.eq_nil_of_length_eq_zero this.symm
  jobs := R.jobs
  walks := R.walks
  begun := R.begun
  deep := R.deep
theorem rel_start : Rel RS.start lStart where
  nmw := fun z h => by cases h
  nmo := fun i h => by cases h
  len := rfl
  lt := fun i h => by cases h
  nd := List.nodup_nil
  blk := fun j i b h => by cases h
  dfn := fun j i h => by cases h
  new := fun i h => by cases h
  jobs := rfl
  walks := rfl
  begun := rfl
  deep := rfl
/-- the same test over both lists -/
theorem any_alike {α β : Type} {f : α → Bool} {g : β → Bool} : ∀ (xs : List α) (ys : List β), ys.length = xs.length → (∀ (j : Nat) (x : α) (y : β), xs[j]? = some x → ys[j]? = some y → f x = g y) → xs.any f = ys.any g
  | [], [], _, _ => rfl
  | x :: xs, y :: ys, hl, h => by
    rw [List.any_cons, List.any_cons, h 0 x y rfl rfl, any_alike xs ys (Nat.succ.inj hl) (fun j a b e1 e2 => h (j + 1) a b e1 e2)]
theorem Rel.late (R : Rel st ls) : (st.around.any fun i => decide ((st.node i).mark = "late")) = ls.stk.any (· == [("late" : Str)]) :=
  any_alike _ _ R.len fun j i b e1 e2 => (R.blk j i b e1 e2).late
theorem Rel.kept (R : Rel st ls) (w : Str) : (st.around.any fun i => keepsM (st.node i) w) = ls.stk.any (· == [("each" : Str), w, "kept"]) :=
  any_alike _ _ R.len fun j i b e1 e2 => (R.blk j i b e1 e2).kept w
theorem Rel.last (R : Rel st ls) (h : st.around ≠ []) : ∃ (r : List Nat) (i : Nat) (s : List (List Str)) (b : List Str), st.around = r ++ [i] ∧ ls.stk = s ++ [b] ∧ s.length = r.length ∧ st.last = i ∧ lTop ls.stk = b.getD 0 "" ∧ BlkAt (st.node i) b := by
  rcases List.eq_nil_or_concat st.around with e | ⟨r, i, e⟩
  · exact absurd e h
  rcases List.eq_nil_or_concat ls.stk with e' | ⟨s, b, e'⟩
  · exact absurd (R.alike.stk.mpr e') h
  have e : st.around = r ++ [i] := by rw [e, List.concat_eq_append]
  have e' : ls.stk = s ++ [b] := by rw [e', List.concat_eq_append]
  have hl := R.len
  rw [e, e', List.length_append, List.length_append] at hl
  have hl : s.length = r.length := Nat.succ.inj hl
  refine ⟨r, i, s, b, e, e', hl, ?_, ?_, ?_⟩
  · unfold RS.last
    rw [e]
    simp
  · rw [e']
    exact getD_last s b
  · refine R.blk r.length i b ?_ ?_
    · rw [e]; simp
    · rw [e', ← hl]; simp
theorem Rel.head (R : Rel st ls) (h : st.around ≠ []) (w : Str) (hw : w ≠ "guard") : decide ((st.node (st.around.headD 0)).word = w) = decide ((ls.stk.headD []).getD 0 "" = w) := by
  cases e : st.around with
  | nil => exact absurd e h
  | cons i r =>
    cases e' : ls.stk with
    | nil => exact absurd (R.alike.stk.mpr e') h
    | cons b s =>
      have B := R.blk 0 i b (by rw [e]; rfl) (by rw [e']; rfl)
      have D := (R.dfn 0 i (by rw [e]; rfl)).mpr rfl
      have m : (st.node i).mark = "" := by
        rcases B.md with q | ⟨q, _⟩
        · exact q
        · rw [q] at D
          exact absurd D (by decide +kernel)
      show decide ((st.node i).word = w) = decide (b.getD 0 "" = w)
      rw [B.b0 m]
/-- where a node stands after one more -/
theorem node_more {ns : List Node} {n : Node} {i : Nat} (h : i < ns.length) : (ns ++ [n]).getD i default = ns.getD i default := by
  rw [List.getD_eq_getElem?_getD, List.getD_eq_getElem?_getD, List.getElem?_append_left h]
theorem node_fresh {ns : List Node} {n : Node} : (ns ++ [n]).getD ns.length default = n := by
  rw [List.getD_eq_getElem?_getD, List.getElem?_append_right (Nat.le_refl _), Nat.sub_self]
  rfl
theorem node_setAt {ns : List Node} {n : Node} {i j : Nat} : (ns.set j n).getD i default = if i = j ∧ j < ns.length then n else ns.getD i default := by
  rw [List.getD_eq_getElem?_getD, List.getD_eq_getElem?_getD, List.getElem?_set]
  by_cases h : j = i
  · subst h
    by_cases l : j < ns.length
    · rw [if_pos rfl, if_pos l, if_pos ⟨rfl, l⟩]
      rfl
    · rw [if_pos rfl, if_neg l, if_neg (fun z => l z.2), List.getElem?_eq_none (Nat.le_of_not_lt l)]
  · rw [if_neg h, if_neg (fun z => h z.1.symm)]
/-- the block of a row that opens -/
theorem blk_new {ps : List Str} (ho : opensL.any (· == ps.getD 0 "") = true) (h3 : ps.getD 0 "" = "each" → 3 ≤ ps.length) (h2 : (ps.getD 0 "" = "walk" ∨ ps.getD 0 "" = "job") → 2 ≤ ps.length) : BlkAt (nodeOf ps) (ps.take 3) where
  op := ho
  md := .inl rfl
  b0 := fun _ => by cases ps <;> rfl
  b1 := fun _ h => by
    have h : ps.getD 0 "" = "walk" ∨ ps.getD 0 "" = "job" := h
    have l := h2 h
    show (ps.take 3).getD 1 "" = (if ps.getD 0 "" = "repeat" then ("" : Str) else if 1 < ps.length then ps.getD 1 "" else ("" : Str))
    rw [if_neg (by rcases h with h | h <;> (rw [h]; decide +kernel)), if_pos (by omega)]
    match ps, l with
    | a :: b :: r, _ => rfl
  be := fun _ h => by
    have h : ps.getD 0 "" = "each" := h
    have l := h3 h
    show ps.take 3 = [("each" : Str), (if ps.getD 0 "" = "repeat" then ("" : Str) else if 1 < ps.length then ps.getD 1 "" else ("" : Str)), (if ps.getD 0 "" = "each" then ps.getD 2 "" else ("" : Str))]
    rw [if_neg (by rw [h]; decide +kernel), if_pos (by omega), if_pos h]
    match ps, l, h with
    | a :: b :: c :: r, _, h =>
      have h : a = "each" := h
      rw [h]
      rfl
  bm := fun h => absurd rfl h
  bh := fun h => by
    have h : ¬ ps.getD 0 "" = "each" := h
    show (if ps.getD 0 "" = "each" then ps.getD 2 "" else ("" : Str)) = ""
    rw [if_neg h]
end
end Ly
end
section
set_option Elab.async false
set_option linter.all false
set_option maxRecDepth 100000
/-! One row: reader and law refuse both, or take it both. -/
namespace Ly
open PySem PySem.Spec PyProof.Rows L2
/-- alike but for what stands in their bodies -/
structure Alk (a m : Node) : Prop where
  w : m.word = a.word
  n : m.name = a.name
  h : m.how = a.how
  k : m.mark = a.mark
theorem Alk.refl (n : Node) : Alk n n := ⟨rfl, rfl, rfl, rfl⟩
theorem BlkAt.alk {n m : Node} {b : List Str} (B : BlkAt n b) (A : Alk n m) : BlkAt m b where
  op := by rw [A.w]; exact B.op
  md := by rw [A.w, A.k]; exact B.md
  b0 := by rw [A.w, A.k]; exact B.b0
  b1 := by rw [A.w, A.k, A.n]; exact B.b1
  be := by rw [A.w, A.k, A.n, A.h]; exact B.be
  bm := by rw [A.k]; exact B.bm
  bh := by rw [A.w, A.h]; exact B.bh
section
variable {st st' : RS} {ls ls' : LSt}
/-- nothing opens, nothing closes -/
theorem Rel.flat (R : Rel st ls) (ha : st'.around = st.around) (hs : ls'.stk = ls.stk) (hn : ∀ i ∈ st.around, i < st'.ns.length ∧ Alk (st.node i) (st'.node i)) (hj : st'.jobs = st.jobs) (hw : st'.walks = st.walks) (hj' : ls'.tj = ls.tj) (hw' : ls'.tw = ls.tw)
    (hb : st'.begun = ls'.bg) (hd : st'.deepest = ls'.dp) : Rel st' ls' where
  len := by rw [ha, hs]; exact R.len
  lt := by rw [ha]; exact fun i h => (hn i h).1
  nd := by rw [ha]; exact R.nd
  blk := by rw [ha, hs]; exact fun j i b e1 e2 => (R.blk j i b e1 e2).alk (hn i (List.mem_of_getElem? e1)).2
  dfn := by rw [ha]; exact fun j i e => by rw [(hn i (List.mem_of_getElem? e)).2.w]; exact R.dfn j i e
  new := by rw [ha, hj, hw]; exact fun i e => by rw [(hn i (List.mem_of_getElem? e)).2.w, (hn i (List.mem_of_getElem? e)).2.n]; exact R.new i e
  jobs := by rw [hj, hj']; exact R.jobs
  walks := by rw [hw, hw']; exact R.walks
  begun := hb
  deep := hd
  nmw := by rw [hw']; exact R.nmw
  nmo := by rw [ha]; exact fun i e => by rw [(hn i (List.mem_of_getElem? e)).2.n]; exact R.nmo i e
/-- one opens -/
theorem Rel.opened (R : Rel st ls) {k : Nat} {b : List Str} (ha : st'.around = st.around ++ [k]) (hs : ls'.stk = ls.stk ++ [b]) (hn : ∀ i ∈ st.around, i < st'.ns.length ∧ Alk (st.node i) (st'.node i)) (hk : k ∉ st.around) (hl : k < st'.ns.length) (B : BlkAt (st'.node k) b)
    (hdf : ((st'.node k).word = "walk" ∨ (st'.node k).word = "job") ↔ st.around = [])
    (hnw : st.around = [] → hasN (if (st'.node k).word = "job" then st.jobs else st.walks) (st'.node k).name = false) (hnm : st.around = [] → isName (st'.node k).name = true)
    (hj : st'.jobs = st.jobs) (hw : st'.walks = st.walks) (hj' : ls'.tj = ls.tj) (hw' : ls'.tw = ls.tw) (hb : st'.begun = ls'.bg) (hd : st'.deepest = ls'.dp) : Rel st' ls' := by
  have cut : ∀ (j i : Nat), (st.around ++ [k])[j]? = some i → st.around[j]? = some i ∨ (j = st.around.length ∧ i = k) := by
    intro j i e
    by_cases h : j < st.around.length
    · rw [List.getElem?_append_left h] at e
      exact .inl e
    · rw [List.getElem?_append_right (by omega)] at e
      have hz : j - st.around.length = 0 := by
        cases q : j - st.around.length with
        | zero => rfl
        | succ m => rw [q] at e; cases e
      rw [hz] at e
      exact .inr ⟨by omega, (Option.some.inj e).symm⟩
  exact {
    len := by rw [ha, hs, List.length_append, List.length_append, R.len]; rfl
    lt := by
      rw [ha]
      intro i h
      rcases List.mem_append.mp h with q | q
      · exact (hn i q).1
      · rw [List.mem_singleton.mp q]
        exact hl
    nd := by
      rw [ha]
      refine List.nodup_append.mpr ⟨R.nd, by simp, ?_⟩
      intro x hx y hy e
      rw [List.mem_singleton.mp hy] at e
      exact hk (e ▸ hx)
    blk := by
      rw [ha, hs]
      intro j i c e1 e2
      rcases cut j i e1 with q | ⟨q1, q2⟩
      · have hj : j < ls.stk.length := by rw [R.len]; exact (List.getElem?_eq_some_iff.mp q).1
        rw [List.getElem?_append_left hj] at e2
        exact (R.blk j i c q e2).alk (hn i (List.mem_of_getElem? q)).2
      · rw [q1, ← R.len, List.getElem?_append_right (Nat.le_refl _), Nat.sub_self] at e2
        rw [q2, ← Option.some.inj e2]
        exact B
    dfn := by
      rw [ha]
      intro j i e
      rcases cut j i e with q | ⟨q1, q2⟩
      · rw [(hn i (List.mem_of_getElem? q)).2.w]
        exact R.dfn j i q
      · rw [q2, hdf, q1]
        exact List.length_eq_zero_iff.symm
    new := by
      rw [ha, hj, hw]
      intro i e
      rcases cut 0 i e with q | ⟨q1, q2⟩
      · rw [(hn i (List.mem_of_getElem? q)).2.w, (hn i (List.mem_of_getElem? q)).2.n]
        exact R.new i q
      · rw [q2]
        exact hnw (List.length_eq_zero_iff.mp q1.symm)
    nmw := by rw [hw']; exact R.nmw
    nmo := by
      rw [ha]
      intro i e
      rcases cut 0 i e with q | ⟨q1, q2⟩
      · rw [(hn i (List.mem_of_getElem? q)).2.n]
        exact R.nmo i q
      · rw [q2]
        exact hnm (List.length_eq_zero_iff.mp q1.symm)
    jobs := by rw [hj, hj']; exact R.jobs
    walks := by rw [hw, hw']; exact R.walks
    begun := hb
    deep := hd }
def Both (st : RS) (ls : LSt) (ps : List Str) : Prop :=
  (takeM st ps = none ∧ lBad ls.stk ls.tw ls.tj ps = true) ∨ ∃ st', takeM st ps = some st' ∧ lBad ls.stk ls.tw ls.tj ps = false ∧ Rel st' (lStep ls ps)
theorem both_define (R : Rel st ls) {w : Str} {tl : List Str} (c : w = "walk" ∨ w = "job") : Both st ls (w :: tl) := by
  have c' : w = "job" ∨ w = "walk" := c.symm
  have hf : hasForm (w :: tl) = ((tl.length == 1) && isName (tl.getD 0 "")) := by
    rcases c with rfl | rfl
    · rw [form1 (s := "name") (by kernel_rfl) (by decide +kernel), sort_name]
    · rw [form1 (s := "name") (by kernel_rfl) (by decide +kernel), sort_name]
  have hlb : lBad ls.stk ls.tw ls.tj (w :: tl) = (!ls.stk.isEmpty || ((w :: tl).length != 2 || (!isName ((w :: tl).getD 1 "") || (if w = "walk" then ls.tw else ls.tj).any (· == (w :: tl).getD 1 "")))) := by
    unfold lBad
    exact if_pos c
  have htk : takeM st (w :: tl) = if hasForm (w :: tl) = false then none else defineM st (w :: tl) := by
    unfold takeM
    by_cases h : hasForm (w :: tl) = false
    · rw [if_pos h, if_pos h]
    · rw [if_neg h, if_neg h]
      exact if_pos c'
  unfold Both
  rw [htk, hlb, hf]
  by_cases h1 : tl.length = 1
  · obtain ⟨x, rfl⟩ : ∃ x, tl = [x] := by
      match tl, h1 with
      | [x], _ => exact ⟨x, rfl⟩
    show ((if ((1 == 1) && isName x) = false then none else defineM st [w, x]) = none ∧ (!ls.stk.isEmpty || ((2 != 2) || (!isName x || (if w = "walk" then ls.tw else ls.tj).any (· == x)))) = true) ∨ ∃ st', (if ((1 == 1) && isName x) = false then none else defineM st [w, x]) = some st' ∧ (!ls.stk.isEmpty || ((2 != 2) || (!isName x || (if w = "walk" then ls.tw else ls.tj).any (· == x)))) = false ∧ Rel st' (lStep ls [w, x])
    cases hx : isName x with
    | false => exact .inl ⟨rfl, by simp⟩
    | true =>
      rw [if_neg (by decide)]
      have hcond : (if w = "walk" then ls.tw else ls.tj) = (if w = "job" then st.jobs else st.walks).map (·.1) := by
        rcases c with rfl | rfl
        · rw [if_pos rfl, if_neg (by decide +kernel)]; exact R.walks.symm
        · rw [if_neg (by decide +kernel), if_pos rfl]; exact R.jobs.symm
      rw [hcond, ← hasN_any]
      by_cases ha : st.around = []
      · have hs := R.alike.stk.mp ha
        cases hh : hasN (if w = "job" then st.jobs else st.walks) x with
        | true =>
          refine .inl ⟨?_, by simp⟩
          unfold defineM
          exact if_pos (.inr hh)
        | false =>
          refine .inr ⟨{ st with ns := st.ns ++ [nodeOf [w, x]], around := st.around ++ [st.ns.length] }, ?_, by rw [hs]; rfl, ?_⟩
          · unfold defineM
            exact if_neg (by rintro (z | z); exact z ha; rw [show (hasN (if ([w, x] : List Str).getD 0 "" = "job" then st.jobs else st.walks) (([w, x] : List Str).getD 1 "")) = hasN (if w = "job" then st.jobs else st.walks) x from rfl, hh] at z; cases z)
          · have hop : opensL.any (· == w) = true := by rcases c with rfl | rfl <;> decide +kernel
            have hen : endsL.any (· == w) = false := by rcases c with rfl | rfl <;> decide +kernel
            have hbg : w ≠ "begin" := by rcases c with rfl | rfl <;> decide +kernel
            have hl : lStep ls [w, x] = { ls with stk := ls.stk ++ [[w, x]], dp := max ls.dp ls.stk.length } := by
              unfold lStep lClose lOpen
              rw [show ([w, x] : List Str).getD 0 "" = w from rfl, hop, hen, if_neg hbg]
              rfl
            rw [hl]
            have hnode : (({ st with ns := st.ns ++ [nodeOf [w, x]], around := st.around ++ [st.ns.length] } : RS).node st.ns.length) = nodeOf [w, x] := node_fresh
            have hn1 : (nodeOf [w, x]).name = x := by
              show (if w = "repeat" then ("" : Str) else if 1 < 2 then x else ("" : Str)) = x
              rw [if_neg (by rcases c with rfl | rfl <;> decide +kernel), if_pos (by decide)]
            refine R.opened (k := st.ns.length) (b := [w, x]) rfl rfl (fun i h => ⟨?_, ?_⟩) ?_ ?_ ?_ ?_ ?_ (fun _ => by rw [hnode, hn1]; exact hx) rfl rfl rfl rfl R.begun ?_
            · rw [List.length_append]
              exact Nat.lt_succ_of_lt (R.lt i h)
            · rw [show ({ st with ns := st.ns ++ [nodeOf [w, x]], around := st.around ++ [st.ns.length] } : RS).node i = st.node i from node_more (R.lt i h)]
              exact Alk.refl _
            · intro h
              exact absurd (R.lt _ h) (Nat.lt_irrefl _)
            · rw [List.length_append]
              exact Nat.lt_succ_self _
            · rw [hnode]
              exact blk_new (ps := [w, x]) hop (fun h => absurd (show w = "each" from h) (by rcases c with rfl | rfl <;> decide +kernel)) (fun _ => Nat.le_refl _)
            · rw [hnode]
              exact ⟨fun _ => ha, fun _ => c⟩
            · intro _
              rw [hnode]
              rw [hn1]
              exact hh
            · rw [hs]
              show st.deepest = max ls.dp 0
              rw [R.deep]
              omega
      · refine .inl ⟨?_, ?_⟩
        · unfold defineM
          exact if_pos (.inl ha)
        · cases hs : ls.stk with
          | nil => exact absurd (R.alike.stk.mpr hs) ha
          | cons a b => rfl
  · rw [show (tl.length == 1) = false from beq_eq_false_iff_ne.mpr h1]
    refine .inl ⟨rfl, ?_⟩
    rw [show ((w :: tl).length != 2) = true by rw [bne_iff_ne]; simp; exact h1]
    simp
theorem Rel.marked (R : Rel st ls) {r : List Nat} {i : Nat} {s : List (List Str)} {b b' : List Str} (e : st.around = r ++ [i]) (e' : ls.stk = s ++ [b]) (hl : s.length = r.length) (ha : st'.around = st.around) (hs : ls'.stk = s ++ [b'])
    (hn : ∀ k ∈ st.around, k < st'.ns.length ∧ (k ≠ i → Alk (st.node k) (st'.node k))) (hw0 : (st'.node i).word = (st.node i).word) (hn0 : (st'.node i).name = (st.node i).name) (B : BlkAt (st'.node i) b')
    (hj : st'.jobs = st.jobs) (hw : st'.walks = st.walks) (hj' : ls'.tj = ls.tj) (hw' : ls'.tw = ls.tw) (hb : st'.begun = ls'.bg) (hd : st'.deepest = ls'.dp) : Rel st' ls' := by
  have hww : ∀ k ∈ st.around, (st'.node k).word = (st.node k).word ∧ (st'.node k).name = (st.node k).name := fun k h => by
    by_cases q : k = i
    · rw [q]
      exact ⟨hw0, hn0⟩
    · exact ⟨((hn k h).2 q).w, ((hn k h).2 q).n⟩
  have nir : i ∉ r := by
    have := R.nd
    rw [e] at this
    intro h
    exact (List.nodup_append.mp this).2.2 i h i (List.mem_singleton.mpr rfl) rfl
  exact {
    len := by
      have := R.len
      rw [e'] at this
      rw [ha, hs, ← this, List.length_append, List.length_append]
      rfl
    lt := by rw [ha]; exact fun k h => (hn k h).1
    nd := by rw [ha]; exact R.nd
    blk := by
      rw [ha, hs]
      intro j k c e1 e2
      by_cases h : j < r.length
      · have hk : k ∈ r := by
          rw [e, List.getElem?_append_left h] at e1
          exact List.mem_of_getElem? e1
        have hki : k ≠ i := fun z => nir (z ▸ hk)
        rw [List.getElem?_append_left (by omega)] at e2
        refine (R.blk j k c e1 ?_).alk ((hn k (List.mem_of_getElem? e1)).2 hki)
        rw [e', List.getElem?_append_left (by omega)]
        exact e2
      · rw [e, List.getElem?_append_right (by omega)] at e1
        have hz : j - r.length = 0 := by
          cases q : j - r.length with
          | zero => rfl
          | succ m => rw [q] at e1; cases e1
        rw [hz] at e1
        rw [List.getElem?_append_right (by omega), hl, hz] at e2
        rw [← Option.some.inj e1, ← Option.some.inj e2]
        exact B
    dfn := by rw [ha]; exact fun j k q => by rw [(hww k (List.mem_of_getElem? q)).1]; exact R.dfn j k q
    new := by rw [ha, hj, hw]; exact fun k q => by rw [(hww k (List.mem_of_getElem? q)).1, (hww k (List.mem_of_getElem? q)).2]; exact R.new k q
    jobs := by rw [hj, hj']; exact R.jobs
    walks := by rw [hw, hw']; exact R.walks
    begun := hb
    deep := hd
    nmw := by rw [hw']; exact R.nmw
    nmo := by rw [ha]; exact fun k q => by rw [(hww k (List.mem_of_getElem? q)).2]; exact R.nmo k q }
theorem both_mark (R : Rel st ls) {w : Str} {tl : List Str} (c : w = "late" ∨ w = "mend") : Both st ls (w :: tl) := by
  have nd : ¬ (w = "walk" ∨ w = "job") := by rcases c with rfl | rfl <;> decide +kernel
  have nd' : ¬ (w = "job" ∨ w = "walk") := fun h => nd h.symm
  have ne : w ≠ "end" := by rcases c with rfl | rfl <;> decide +kernel
  have hf : hasForm (w :: tl) = (tl.length == 0) := by
    rcases c with rfl | rfl
    · exact form0 (by kernel_rfl) (by decide +kernel)
    · exact form0 (by kernel_rfl) (by decide +kernel)
  have h6 : (["end", "late", "mend", "pause", "guard", "give"] : List Str).any (· == w) = true := by rcases c with rfl | rfl <;> decide +kernel
  have h3 : (["end", "late", "mend"] : List Str).any (· == w) = true := by rcases c with rfl | rfl <;> decide +kernel
  have hlb : lBad ls.stk ls.tw ls.tj (w :: tl) = if (ls.stk.isEmpty || (w :: tl).length != 1) = true then true else (decide (lTop ls.stk = "guard") == false) := by
    unfold lBad
    rw [show (w :: tl).getD 0 "" = w from rfl, if_neg nd, h6, h3, Bool.true_and, if_pos rfl, decide_eq_false ne]
  have htk : takeM st (w :: tl) = if hasForm (w :: tl) = false then none else if st.around = [] then none else markM st w := by
    unfold takeM
    rw [show (w :: tl).getD 0 "" = w from rfl, if_neg nd', if_pos c]
  unfold Both
  rw [htk, hlb, hf]
  match tl with
  | x :: r =>
    refine .inl ⟨rfl, ?_⟩
    rw [if_pos (by simp)]
  | [] =>
    rw [if_neg (by decide)]
    by_cases ha : st.around = []
    · rw [if_pos ha]
      refine .inl ⟨rfl, ?_⟩
      rw [R.alike.stk.mp ha, if_pos (by rfl)]
    · rw [if_neg ha]
      obtain ⟨r, i, s, b, e, e', hl, hlast, htop, B⟩ := R.last ha
      have hse : ls.stk.isEmpty = false := by rw [e']; cases s <;> rfl
      rw [hse, if_neg (show ¬ ((false || (([w] : List Str).length != 1)) = true) from (by decide : ¬ ((false || (1 != 1)) = true)))]
      unfold markM
      rw [hlast, htop]
      by_cases g : (st.node i).word = "guard" ∧ (st.node i).mark = ""
      · rw [if_neg (by rintro (z | z); exact z g.1; exact z g.2)]
        refine .inr ⟨_, rfl, ?_, ?_⟩
        · rw [decide_eq_true (B.guard.mpr g)]
          rfl
        · have hop : opensL.any (· == w) = false := by rcases c with rfl | rfl <;> decide +kernel
          have hen : endsL.any (· == w) = true := by rcases c with rfl | rfl <;> decide +kernel
          have hbg : w ≠ "begin" := by rcases c with rfl | rfl <;> decide +kernel
          have hst : lStep ls [w] = { ls with stk := s ++ [[w]] } := by
            unfold lStep lClose lOpen
            rw [show ([w] : List Str).getD 0 "" = w from rfl, hop, hen, if_neg hbg, if_neg ne]
            simp only [if_true, Bool.false_eq_true, if_false]
            rw [e', List.dropLast_concat]
            have : (s ++ [[w]]).isEmpty = false := by cases s <;> rfl
            rw [this, if_neg Bool.false_ne_true]
          rw [hst]
          have hi : i < st.ns.length := R.lt i (by rw [e]; simp)
          have hnode : ∀ k, (({ st with ns := st.ns.set i { st.node i with mark := w } } : RS).node k) = if k = i ∧ i < st.ns.length then { st.node i with mark := w } else st.node k := fun k => node_setAt
          have hni : (({ st with ns := st.ns.set i { st.node i with mark := w } } : RS).node i) = { st.node i with mark := w } := by rw [hnode, if_pos ⟨rfl, hi⟩]
          refine R.marked (b := b) (b' := [w]) e e' hl rfl rfl (fun k hk => ⟨by rw [List.length_set]; exact R.lt k hk, fun q => by rw [hnode, if_neg (fun z => q z.1)]; exact Alk.refl _⟩) (by rw [hni]) (by rw [hni]) ?_ rfl rfl rfl rfl R.begun R.deep
          rw [hni]
          have hwe : w ≠ "" := by rcases c with rfl | rfl <;> decide +kernel
          exact { op := B.op, md := .inr ⟨g.1, c⟩, b0 := fun z => absurd z hwe, b1 := fun z => absurd z hwe, be := fun z => absurd z hwe, bm := fun _ => rfl, bh := B.bh }
      · rw [if_pos (by
          by_cases z : (st.node i).word = "guard"
          · exact .inr fun y => g ⟨z, y⟩
          · exact .inl z)]
        refine .inl ⟨rfl, ?_⟩
        rw [decide_eq_false (fun z => g (B.guard.mp z))]
        rfl
end
end Ly
end
section
set_option Elab.async false
set_option linter.all false
set_option maxRecDepth 100000
namespace Ly
open PySem PySem.Spec PyProof.Rows L2
section
variable {st st' : RS} {ls ls' : LSt}
theorem Rel.closed (R : Rel st ls) {r : List Nat} {i : Nat} {s : List (List Str)} {b : List Str} (e : st.around = r ++ [i]) (e' : ls.stk = s ++ [b]) (hl : s.length = r.length) (ha : st'.around = r) (hs : ls'.stk = s) (hn : st'.ns = st.ns)
    (hk : r ≠ [] → st'.jobs = st.jobs ∧ st'.walks = st.walks) (hj : st'.jobs.map (·.1) = ls'.tj) (hw : st'.walks.map (·.1) = ls'.tw) (hb : st'.begun = ls'.bg) (hd : st'.deepest = ls'.dp) (hnm : ∀ z ∈ ls'.tw, isName z = true) : Rel st' ls' := by
  have hnode : ∀ k, st'.node k = st.node k := fun k => by unfold RS.node; rw [hn]
  have up : ∀ (j k : Nat), r[j]? = some k → st.around[j]? = some k := fun j k q => by
    rw [e, List.getElem?_append_left (List.getElem?_eq_some_iff.mp q).1]
    exact q
  have hm : ∀ k ∈ r, k ∈ st.around := fun k h => by rw [e]; exact List.mem_append_left _ h
  exact {
    len := by rw [ha, hs, hl]
    lt := by rw [ha, hn]; exact fun k h => R.lt k (hm k h)
    nd := by
      rw [ha]
      have := R.nd
      rw [e] at this
      exact (List.nodup_append.mp this).1
    blk := by
      rw [ha, hs]
      intro j k c e1 e2
      rw [hnode]
      refine R.blk j k c (up j k e1) ?_
      rw [e', List.getElem?_append_left (List.getElem?_eq_some_iff.mp e2).1]
      exact e2
    dfn := by
      rw [ha]
      intro j k q
      rw [hnode]
      exact R.dfn j k (up j k q)
    new := by
      rw [ha]
      intro k q
      have hr : r ≠ [] := fun z => by rw [z] at q; cases q
      rw [hnode, (hk hr).1, (hk hr).2]
      exact R.new k (up 0 k q)
    jobs := hj
    walks := hw
    begun := hb
    deep := hd
    nmw := hnm
    nmo := by
      rw [ha]
      intro k q
      rw [hnode]
      exact R.nmo k (up 0 k q) }
theorem putN_new {js : List (Str × Nat)} {k : Str} {v : Nat} (h : hasN js k = false) : (putN js k v).map (·.1) = js.map (·.1) ++ [k] := by
  unfold putN
  unfold hasN at h
  rw [h, if_neg Bool.false_ne_true, List.map_append]
  rfl
theorem both_end (R : Rel st ls) {tl : List Str} : Both st ls (("end" : Str) :: tl) := by
  have hf : hasForm (("end" : Str) :: tl) = (tl.length == 0) := form0 (by kernel_rfl) (by decide +kernel)
  have hlb : lBad ls.stk ls.tw ls.tj (("end" : Str) :: tl) = if (ls.stk.isEmpty || (("end" : Str) :: tl).length != 1) = true then true else (decide (lTop ls.stk = "guard") == true) := by
    unfold lBad
    rw [show (("end" : Str) :: tl).getD 0 "" = "end" from rfl, if_neg (by decide +kernel), show (["end", "late", "mend", "pause", "guard", "give"] : List Str).any (· == ("end" : Str)) = true by decide +kernel,
      show (["end", "late", "mend"] : List Str).any (· == ("end" : Str)) = true by decide +kernel, Bool.true_and, if_pos rfl, decide_eq_true rfl]
  have htk : takeM st (("end" : Str) :: tl) = if hasForm (("end" : Str) :: tl) = false then none else if st.around = [] then none else endM st := by
    unfold takeM
    rw [show (("end" : Str) :: tl).getD 0 "" = "end" from rfl, if_neg (show ¬ (("end" : Str) = "job" ∨ ("end" : Str) = "walk") by decide +kernel), if_neg (show ¬ (("end" : Str) = "late" ∨ ("end" : Str) = "mend") by decide +kernel), if_pos rfl]
  unfold Both
  rw [htk, hlb, hf]
  match tl with
  | x :: r =>
    refine .inl ⟨rfl, ?_⟩
    rw [if_pos (by simp)]
  | [] =>
    rw [if_neg (by decide)]
    by_cases ha : st.around = []
    · rw [if_pos ha]
      refine .inl ⟨rfl, ?_⟩
      rw [R.alike.stk.mp ha, if_pos (by rfl)]
    · rw [if_neg ha]
      obtain ⟨r, i, s, b, e, e', hl, hlast, htop, B⟩ := R.last ha
      have hse : ls.stk.isEmpty = false := by rw [e']; cases s <;> rfl
      rw [hse, if_neg (show ¬ ((false || ((["end"] : List Str).length != 1)) = true) from (by decide : ¬ ((false || (1 != 1)) = true)))]
      unfold endM
      rw [hlast, htop]
      by_cases g : (st.node i).word = "guard" ∧ (st.node i).mark = ""
      · rw [if_pos g]
        refine .inl ⟨rfl, ?_⟩
        rw [decide_eq_true (B.guard.mpr g)]
        rfl
      rw [if_neg g, decide_eq_false (fun z => g (B.guard.mp z))]
      have hst : lStep ls ["end"] = if s.isEmpty = true then (if b.getD 0 "" = "walk" then { ls with stk := s, tw := ls.tw ++ [b.getD 1 ""] } else { ls with stk := s, tj := ls.tj ++ [b.getD 1 ""] }) else { ls with stk := s } := by
        unfold lStep lClose lOpen
        rw [show (["end"] : List Str).getD 0 "" = "end" from rfl, show opensL.any (· == ("end" : Str)) = false by decide +kernel, show endsL.any (· == ("end" : Str)) = true by decide +kernel, if_neg (show ¬ ("end" : Str) = "begin" by decide +kernel)]
        simp only [if_true, Bool.false_eq_true, if_false]
        rw [e', List.dropLast_concat, List.append_nil]
        simp
      rw [hst, e, List.dropLast_concat]
      have hdf := R.dfn r.length i (by rw [e]; simp)
      by_cases hd : (st.node i).word = "walk" ∨ (st.node i).word = "job"
      · have hr : r = [] := List.length_eq_zero_iff.mp (hdf.mp hd)
        have hs : s = [] := List.length_eq_zero_iff.mp (by rw [hl, hr]; rfl)
        have hm : (st.node i).mark = "" := by
          rcases B.md with q | ⟨q, _⟩
          · exact q
          · rw [q] at hd
            exact absurd hd (by decide +kernel)
        have b0 := B.b0 hm
        have b1 := B.b1 hm hd
        have nw := R.new i (by rw [e, hr]; rfl)
        rw [show s.isEmpty = true by rw [hs]; rfl, if_pos rfl, b0, b1]
        by_cases hj : (st.node i).word = "job"
        · rw [if_pos hj, if_neg (show ¬ (st.node i).word = "walk" by rw [hj]; decide +kernel)]
          rw [if_pos hj] at nw
          refine .inr ⟨{ st with around := r, jobs := putN st.jobs (st.node i).name i }, rfl, rfl, R.closed (b := b) e e' hl rfl rfl rfl (fun z => absurd hr z) ?_ R.walks R.begun R.deep R.nmw⟩
          rw [show (({ st with around := r, jobs := putN st.jobs (st.node i).name i } : RS).jobs) = putN st.jobs (st.node i).name i from rfl, putN_new nw, R.jobs]
        · have hw : (st.node i).word = "walk" := hd.resolve_right hj
          rw [if_neg hj, if_pos hw, if_pos hw]
          rw [if_neg hj] at nw
          refine .inr ⟨{ st with around := r, walks := putN st.walks (st.node i).name i }, rfl, rfl, R.closed (b := b) e e' hl rfl rfl rfl (fun z => absurd hr z) R.jobs ?_ R.begun R.deep (fun z hz => by
            rcases List.mem_append.mp hz with q | q
            · exact R.nmw z q
            · rw [List.mem_singleton.mp q]
              exact R.nmo i (by rw [e, hr]; rfl))⟩
          rw [show (({ st with around := r, walks := putN st.walks (st.node i).name i } : RS).walks) = putN st.walks (st.node i).name i from rfl, putN_new nw, R.walks]
      · have hr : r ≠ [] := fun z => hd (hdf.mpr (by rw [z]; rfl))
        have hs : s.isEmpty = false := by
          cases s with
          | nil => exact absurd (List.length_eq_zero_iff.mp hl.symm) hr
          | cons x y => rfl
        rw [hs, if_neg Bool.false_ne_true, if_neg (fun z => hd (.inr z)), if_neg (fun z => hd (.inl z))]
        exact .inr ⟨{ st with around := r }, rfl, rfl, R.closed (b := b) e e' hl rfl rfl rfl (fun _ => ⟨rfl, rfl⟩) R.jobs R.walks R.begun R.deep R.nmw⟩
end
end Ly
end
section
set_option Elab.async false
set_option linter.all false
set_option maxRecDepth 100000
namespace Ly
open PySem PySem.Spec PyProof.Rows L2
section
variable {st st' : RS} {ls ls' : LSt}
theorem blocks_opens {w : Str} (h : ¬ (w = "walk" ∨ w = "job")) : opensL.any (· == w) = blocksL.any (· == w) := by
  unfold opensL blocksL
  simp only [List.any_cons, List.any_nil]
  rw [show ((("walk" : Str)) == w) = false from beq_eq_false_iff_ne.mpr fun z => h (.inl z.symm), show ((("job" : Str)) == w) = false from beq_eq_false_iff_ne.mpr fun z => h (.inr z.symm), Bool.false_or, Bool.false_or]
theorem add_rel (R : Rel st ls) (ha : st.around ≠ []) {ps : List Str} (n1 : ¬ (ps.getD 0 "" = "walk" ∨ ps.getD 0 "" = "job")) (n2 : endsL.any (· == ps.getD 0 "") = false) (h3 : ps.getD 0 "" = "each" → 3 ≤ ps.length) (h2 : ps.getD 0 "" = "begin" → 2 ≤ ps.length) (hm : mayStandM st (nodeOf ps) = true) :
    ∃ st', addM st (nodeOf ps) = some st' ∧ Rel st' (lStep ls ps) := by
  unfold addM
  rw [hm, if_neg (by decide)]
  refine ⟨_, rfl, ?_⟩
  obtain ⟨r, i, s, b, e, e', hl, hlast, htop, B⟩ := R.last ha
  have hi : i < st.ns.length := R.lt i (by rw [e]; simp)
  rw [hlast]
  generalize hblk : (if (st.node i).mark ≠ "" then { st.node i with behind := (st.node i).behind ++ [st.ns.length] } else { st.node i with body := (st.node i).body ++ [st.ns.length] } : Node) = blk
  have A : Alk (st.node i) blk := by
    rw [← hblk]
    split <;> exact ⟨rfl, rfl, rfl, rfl⟩
  have hnode : ∀ (k : Nat), k < st.ns.length → Alk (st.node k) ((st.ns.set i blk ++ [nodeOf ps]).getD k default) := fun k hk => by
    rw [node_more (by rw [List.length_set]; exact hk), node_setAt]
    by_cases q : k = i
    · rw [if_pos ⟨q, hi⟩, q]
      exact A
    · rw [if_neg (fun z => q z.1)]
      exact Alk.refl _
  have hnew : (st.ns.set i blk ++ [nodeOf ps]).getD st.ns.length default = nodeOf ps := by
    have := node_fresh (ns := st.ns.set i blk) (n := nodeOf ps)
    rw [List.length_set] at this
    exact this
  have hlen : (st.ns.set i blk ++ [nodeOf ps]).length = st.ns.length + 1 := by rw [List.length_append, List.length_set]; rfl
  have hbg : (if (nodeOf ps).word = "wait" ∨ (nodeOf ps).word = "open" then st.begun else if (nodeOf ps).word = "begin" then st.begun ++ [(nodeOf ps).name] else st.begun) = if ps.getD 0 "" = "begin" then ls.bg ++ [ps.getD 1 ""] else ls.bg := by
    rw [show (nodeOf ps).word = ps.getD 0 "" from rfl, R.begun]
    by_cases c : ps.getD 0 "" = "begin"
    · rw [if_neg (by rw [c]; decide +kernel), if_pos c, if_pos c]
      have hn : (nodeOf ps).name = ps.getD 1 "" := by
        show (if ps.getD 0 "" = "repeat" then ("" : Str) else if 1 < ps.length then ps.getD 1 "" else ("" : Str)) = _
        have := h2 c
        rw [if_neg (by rw [c]; decide +kernel), if_pos (by omega)]
      rw [hn]
    · rw [if_neg c, if_neg c]
      split <;> rfl
  rw [hbg]
  have hst : lStep ls ps = if blocksL.any (· == ps.getD 0 "") = true then { ls with stk := ls.stk ++ [ps.take 3], dp := max ls.dp ls.stk.length, bg := if ps.getD 0 "" = "begin" then ls.bg ++ [ps.getD 1 ""] else ls.bg } else { ls with bg := if ps.getD 0 "" = "begin" then ls.bg ++ [ps.getD 1 ""] else ls.bg } := by
    unfold lStep lClose lOpen
    rw [n2, blocks_opens n1]
    cases hb : blocksL.any (· == ps.getD 0 "") with
    | false =>
      by_cases c : ps.getD 0 "" = "begin"
      · simp only [if_pos c, Bool.false_eq_true, if_false]
      · simp only [if_neg c, Bool.false_eq_true, if_false]
    | true =>
      by_cases c : ps.getD 0 "" = "begin"
      · simp only [if_pos c, Bool.false_eq_true, if_false, if_true]
      · simp only [if_neg c, Bool.false_eq_true, if_false, if_true]
  rw [hst, show (nodeOf ps).word = ps.getD 0 "" from rfl]
  cases hb : blocksL.any (· == ps.getD 0 "") with
  | false =>
    simp only [Bool.false_eq_true, if_false]
    exact R.flat rfl rfl (fun k hk => ⟨by show k < (st.ns.set i blk ++ [nodeOf ps]).length; rw [hlen]; exact Nat.lt_succ_of_lt (R.lt k hk), hnode k (R.lt k hk)⟩) rfl rfl rfl rfl rfl R.deep
  | true =>
    simp only [if_true]
    refine R.opened (k := st.ns.length) (b := ps.take 3) rfl rfl (fun k hk => ⟨by show k < (st.ns.set i blk ++ [nodeOf ps]).length; rw [hlen]; exact Nat.lt_succ_of_lt (R.lt k hk), hnode k (R.lt k hk)⟩) (fun h => absurd (R.lt _ h) (Nat.lt_irrefl _)) (by show st.ns.length < (st.ns.set i blk ++ [nodeOf ps]).length; rw [hlen]; exact Nat.lt_succ_self _) ?_ ?_ (fun z => absurd z ha) (fun z => absurd z ha) rfl rfl rfl rfl rfl ?_
    · unfold RS.node
      rw [hnew]
      exact blk_new (by rw [blocks_opens n1]; exact hb) h3 (fun z => absurd z n1)
    · unfold RS.node
      rw [hnew]
      exact ⟨fun z => absurd z n1, fun z => absurd z ha⟩
    · show max st.deepest st.around.length = max ls.dp ls.stk.length
      rw [R.deep, R.len]
end
end Ly
end
section
set_option Elab.async false
set_option linter.all false
set_option maxRecDepth 100000
namespace Ly
open PySem PySem.Spec PyProof.Rows L2
section
variable {st st' : RS} {ls ls' : LSt} {x : List Str} {s : List (List Str)} {tw tj tl : List Str}
theorem bad_pause : lBad (x :: s) tw tj (("pause" : Str) :: tl) = (tl.length + 1 != 1) := by
  show (if (tl.length + 1 != 1) = true then true else false) = _
  cases (tl.length + 1 != 1) <;> rfl
theorem bad_guard : lBad (x :: s) tw tj (("guard" : Str) :: tl) = (tl.length + 1 != 1) := by
  show (if (tl.length + 1 != 1) = true then true else false) = _
  cases (tl.length + 1 != 1) <;> rfl
theorem bad_give : lBad (x :: s) tw tj (("give" : Str) :: tl) = ((tl.length + 1 != 1) || (!decide (x.getD 0 "" = "walk") || (x :: s).any (· == [("late" : Str)]))) := by
  show (if (tl.length + 1 != 1) = true then true else (!decide (x.getD 0 "" = "walk") || (x :: s).any (· == [("late" : Str)]))) = _
  cases (tl.length + 1 != 1) <;> rfl
theorem bad_repeat : lBad (x :: s) tw tj (("repeat" : Str) :: tl) = ((tl.length + 1 != 2) || !isFigure (tl.getD 0 "")) := by
  rw [← figure_any]
  rfl
theorem bad_sayW : lBad (x :: s) tw tj (("say" : Str) :: tl) = ((tl.length + 1 != 2) || !isName (tl.getD 0 "")) := rfl
theorem bad_waitW : lBad (x :: s) tw tj (("wait" : Str) :: tl) = ((tl.length + 1 != 2) || !isName (tl.getD 0 "")) := rfl
theorem bad_openW : lBad (x :: s) tw tj (("open" : Str) :: tl) = ((tl.length + 1 != 2) || !isName (tl.getD 0 "")) := rfl
theorem bad_beginW : lBad (x :: s) tw tj (("begin" : Str) :: tl) = ((tl.length + 1 != 2) || !isName (tl.getD 0 "")) := rfl
theorem bad_failW : lBad (x :: s) tw tj (("fail" : Str) :: tl) = ((tl.length + 1 != 2) || !isName (tl.getD 0 "")) := rfl
/-- a word that is none -/
theorem bad_other {w : Str} (h : formOf w = none) : lBad (x :: s) tw tj (w :: tl) = true := by
  have hne : ∀ z ∈ formsL.map (·.1), w ≠ z := fun z hz e => by
    unfold formOf at h
    rw [Option.map_eq_none_iff, List.find?_eq_none] at h
    obtain ⟨p, hp, q⟩ := List.mem_map.mp hz
    exact h p hp (decide_eq_true (q.trans e.symm))
  have hany : ∀ zs : List Str, (∀ z ∈ zs, z ∈ formsL.map (·.1)) → zs.any (· == w) = false := fun zs q => by
    rw [List.any_eq_false]
    intro z hz e
    exact hne z (q z hz) (beq_iff_eq.mp e).symm
  have m : ∀ z : Str, (formsL.map (·.1)).any (· == z) = true → z ∈ formsL.map (·.1) := fun z q => by
    obtain ⟨y, hy, e⟩ := List.any_eq_true.mp q
    exact (beq_iff_eq.mp e) ▸ hy
  have nw : ¬ (w = "walk" ∨ w = "job") := by
    rintro (e | e)
    · exact hne "walk" (m _ (by decide +kernel)) e
    · exact hne "job" (m _ (by decide +kernel)) e
  unfold lBad
  rw [show (w :: tl).getD 0 "" = w from rfl, if_neg nw, hany ["end", "late", "mend", "pause", "guard", "give"] (by intro z hz; refine m z ?_; revert z; decide +kernel), hany ["end", "late", "mend"] (by intro z hz; refine m z ?_; revert z; decide +kernel), hany ["pause", "guard"] (by intro z hz; refine m z ?_; revert z; decide +kernel),
    hany ["say", "wait", "open", "begin", "fail"] (by intro z hz; refine m z ?_; revert z; decide +kernel), if_neg (hne "give" (m _ (by decide +kernel))), if_neg (hne "repeat" (m _ (by decide +kernel)))]
  rw [if_pos (show w ≠ "each" ∨ _ from .inl (hne "each" (m _ (by decide +kernel))))]
  split
  · rfl
  · rfl
end
end Ly
end
section
set_option Elab.async false
set_option linter.all false
set_option maxRecDepth 100000
namespace Ly
open PySem PySem.Spec PyProof.Rows L2
section
variable {st st' : RS} {ls ls' : LSt} {x : List Str} {s : List (List Str)} {tl : List Str}
theorem may_plain {nd : Node} (h1 : nd.word ≠ "give") (h2 : nd.word ≠ "each") : mayStandM st nd = true := by
  unfold mayStandM
  rw [if_neg h1, if_pos h2]
theorem len_ne (tl : List Str) (n : Nat) : (tl.length + 1 != n + 1) = !(tl.length == n) := by
  rw [Bool.eq_iff_iff]
  simp
theorem core0 {w : Str} (hb : lBad ls.stk ls.tw ls.tj (w :: tl) = (tl.length + 1 != 1)) (e : formOf w = some []) (h1 : w ≠ "give") (h2 : w ≠ "each") : lBad ls.stk ls.tw ls.tj (w :: tl) = !(hasForm (w :: tl) && mayStandM st (nodeOf (w :: tl))) := by
  rw [hb, form0 e h2, may_plain h1 h2, Bool.and_true]
  cases tl <;> rfl
theorem core1 {w q : Str} {ok : Str → Bool} (hq : ∀ z, ofSort z q = ok z) (hb : lBad ls.stk ls.tw ls.tj (w :: tl) = ((tl.length + 1 != 2) || !ok (tl.getD 0 ""))) (e : formOf w = some [q]) (h1 : w ≠ "give") (h2 : w ≠ "each") : lBad ls.stk ls.tw ls.tj (w :: tl) = !(hasForm (w :: tl) && mayStandM st (nodeOf (w :: tl))) := by
  rw [hb, form1 e h2, hq, may_plain h1 h2, Bool.and_true, Bool.not_and]
  rw [len_ne tl 1]
theorem core_give (R : Rel st ls) (ha : st.around ≠ []) (hs : ls.stk = x :: s) : lBad ls.stk ls.tw ls.tj (("give" : Str) :: tl) = !(hasForm (("give" : Str) :: tl) && mayStandM st (nodeOf (("give" : Str) :: tl))) := by
  have h := R.head ha "walk" (by decide +kernel)
  have l := R.late
  have hm : mayStandM st (nodeOf (("give" : Str) :: tl)) = (decide ((st.node (st.around.headD 0)).word = "walk") && !(st.around.any fun i => decide ((st.node i).mark = "late"))) := by
    unfold mayStandM
    exact if_pos rfl
  rw [hm, h, l, form0 (by kernel_rfl) (by decide +kernel), hs, bad_give]
  show ((tl.length + 1 != 1) || (!decide (x.getD 0 "" = "walk") || (x :: s).any (· == [("late" : Str)]))) = !((tl.length == 0) && (decide (x.getD 0 "" = "walk") && !(x :: s).any (· == [("late" : Str)])))
  rw [Bool.not_and, Bool.not_and, Bool.not_not, len_ne tl 0]
theorem core_each (R : Rel st ls) (ha : st.around ≠ []) (hs : ls.stk = x :: s) : lBad ls.stk ls.tw ls.tj (("each" : Str) :: tl) = !(hasForm (("each" : Str) :: tl) && mayStandM st (nodeOf (("each" : Str) :: tl))) := by
  have h := R.head ha "job" (by decide +kernel)
  rw [hs] at h
  have h : decide ((st.node (st.around.headD 0)).word = "job") = decide (x.getD 0 "" = "job") := h
  have hwk : ∀ z, hasN st.walks z = ls.tw.any (· == z) := fun z => by rw [hasN_any, R.walks]
  have hnm : ∀ z, ls.tw.any (· == z) = true → isName z = true := fun z q => by
    obtain ⟨y, hy, e⟩ := List.any_eq_true.mp q
    exact (beq_iff_eq.mp e) ▸ R.nmw y hy
  have hhow : isHow "" = false := by decide +kernel
  have hfig : isFigure "" = false := by decide +kernel
  have hm : ∀ a b r, mayStandM st (nodeOf (("each" : Str) :: a :: b :: r)) = if ls.tw.any (· == a) = false then false else if b ≠ "kept" then true else (decide (x.getD 0 "" = "job") && !(x :: s).any (· == [("each" : Str), a, "kept"])) := fun a b r => by
    have k := R.kept a
    rw [hs] at k
    have e1 : (nodeOf (("each" : Str) :: a :: b :: r)).name = a := rfl
    have e2 : (nodeOf (("each" : Str) :: a :: b :: r)).how = b := rfl
    unfold mayStandM
    rw [if_neg (show ¬ (nodeOf (("each" : Str) :: a :: b :: r)).word = "give" from (by decide +kernel : ¬ ("each" : Str) = "give")), if_neg (show ¬ (nodeOf (("each" : Str) :: a :: b :: r)).word ≠ "each" from fun z => z rfl), e1, e2, hwk, h, k]
  rw [form_each, hs]
  match tl with
  | [] => rfl
  | [a] => rfl
  | [a, b] =>
    rw [hm]
    show (if (("each" : Str) ≠ "each" ∨ ¬ (3 = 3 ∨ 3 = 4) ∨ (ls.tw.any (· == a)) = false ∨ b = "") then true else if (!isHow b || (false && !(("123456789" : Str).cps.toList.map fun c => (⟨#[c]⟩ : Str)).any (· == ("" : Str)))) = true then true else (decide (b = "kept") && (!decide (x.getD 0 "" = "job") || (x :: s).any (· == [("each" : Str), a, "kept"])))) = !((((2 == 2) && (isName a && isHow b)) || ((2 == 3) && (isName a && (isHow b && isFigure "")))) && _)
    rw [show ((2 == 3) : Bool) = false from rfl, show ((2 == 2) : Bool) = true from rfl, Bool.false_and, Bool.or_false, Bool.true_and, Bool.false_and, Bool.or_false]
    by_cases ht : ls.tw.any (· == a) = true
    · by_cases hb : b = ""
      · refine (if_pos (Or.inr (Or.inr (Or.inr hb)))).trans ?_
        rw [hb, hhow, Bool.and_false, Bool.false_and]
        rfl
      · refine (if_neg (by rintro (z | z | z | z); exact z rfl; exact z (.inl rfl); rw [ht] at z; cases z; exact hb z)).trans ?_
        rw [hnm a ht, Bool.true_and, ht]
        cases hw : isHow b with
        | false => rfl
        | true =>
          refine (if_neg (show ¬ ((!true) = true) by decide)).trans ?_
          rw [Bool.true_and, if_neg (show ¬ (true = false) by decide)]
          by_cases hk : b = "kept"
          · rw [decide_eq_true hk, Bool.true_and, if_neg (show ¬ b ≠ "kept" from fun z => z hk), Bool.not_and, Bool.not_not]
          · rw [decide_eq_false hk, Bool.false_and, if_pos hk]
            rfl
    · have ht : ls.tw.any (· == a) = false := by
        cases q : ls.tw.any (· == a) with
        | true => exact absurd q ht
        | false => rfl
      refine (if_pos (Or.inr (Or.inr (Or.inl ht)))).trans ?_
      rw [if_pos ht, Bool.and_false]
      rfl
  | [a, b, c] =>
    rw [hm]
    show (if (("each" : Str) ≠ "each" ∨ ¬ (4 = 3 ∨ 4 = 4) ∨ (ls.tw.any (· == a)) = false ∨ c = "") then true else if (!isHow b || (true && !(("123456789" : Str).cps.toList.map fun c => (⟨#[c]⟩ : Str)).any (· == c))) = true then true else (decide (b = "kept") && (!decide (x.getD 0 "" = "job") || (x :: s).any (· == [("each" : Str), a, "kept"])))) = !((((3 == 2) && (isName a && isHow b)) || ((3 == 3) && (isName a && (isHow b && isFigure c)))) && _)
    rw [figure_any, show ((3 == 2) : Bool) = false from rfl, show ((3 == 3) : Bool) = true from rfl, Bool.false_and, Bool.false_or, Bool.true_and, Bool.true_and]
    by_cases ht : ls.tw.any (· == a) = true
    · by_cases hb : c = ""
      · refine (if_pos (Or.inr (Or.inr (Or.inr hb)))).trans ?_
        rw [hb, hfig, Bool.and_false, Bool.and_false, Bool.false_and]
        rfl
      · refine (if_neg (by rintro (z | z | z | z); exact z rfl; exact z (.inr rfl); rw [ht] at z; cases z; exact hb z)).trans ?_
        rw [hnm a ht, Bool.true_and, ht]
        cases hw : isHow b with
        | false => rfl
        | true =>
          cases hg : isFigure c with
          | false => rfl
          | true =>
            refine (if_neg (show ¬ ((!true || !true) = true) by decide)).trans ?_
            rw [Bool.true_and, Bool.true_and, if_neg (show ¬ (true = false) by decide)]
            by_cases hk : b = "kept"
            · rw [decide_eq_true hk, Bool.true_and, if_neg (show ¬ b ≠ "kept" from fun z => z hk), Bool.not_and, Bool.not_not]
            · rw [decide_eq_false hk, Bool.false_and, if_pos hk]
              rfl
    · have ht : ls.tw.any (· == a) = false := by
        cases q : ls.tw.any (· == a) with
        | true => exact absurd q ht
        | false => rfl
      refine (if_pos (Or.inr (Or.inr (Or.inl ht)))).trans ?_
      rw [if_pos ht, Bool.and_false]
      rfl
  | a :: b :: c :: d :: r =>
    have hl : ¬ ((("each" : Str) :: a :: b :: c :: d :: r).length = 3 ∨ (("each" : Str) :: a :: b :: c :: d :: r).length = 4) := by
      simp
    have e1 : lBad (x :: s) ls.tw ls.tj (("each" : Str) :: a :: b :: c :: d :: r) = true := by
      show (if (("each" : Str) ≠ "each" ∨ ¬ ((("each" : Str) :: a :: b :: c :: d :: r).length = 3 ∨ (("each" : Str) :: a :: b :: c :: d :: r).length = 4) ∨ (ls.tw.any (· == a)) = false ∨ (("each" : Str) :: a :: b :: c :: d :: r).getD ((("each" : Str) :: a :: b :: c :: d :: r).length - 1) "" = "") then true
        else if (!isHow b || ((("each" : Str) :: a :: b :: c :: d :: r).length == 4 && !(("123456789" : Str).cps.toList.map fun c => (⟨#[c]⟩ : Str)).any (· == c))) = true then true else (decide (b = "kept") && (!decide (x.getD 0 "" = "job") || (x :: s).any (· == [("each" : Str), a, "kept"])))) = true
      exact if_pos (Or.inr (Or.inl hl))
    rw [e1]
    simp
end
end Ly
end
section
set_option Elab.async false
set_option linter.all false
set_option maxRecDepth 100000
namespace Ly
open PySem PySem.Spec PyProof.Rows L2
section
variable {st st' : RS} {ls ls' : LSt} {tl : List Str}
theorem core (R : Rel st ls) (ha : st.around ≠ []) {w : Str} (n1 : ¬ (w = "walk" ∨ w = "job")) (n2 : endsL.any (· == w) = false) : lBad ls.stk ls.tw ls.tj (w :: tl) = !(hasForm (w :: tl) && mayStandM st (nodeOf (w :: tl))) := by
  cases hs : ls.stk with
  | nil => exact absurd (R.alike.stk.mpr hs) ha
  | cons x s =>
    rw [← hs]
    by_cases e1 : w = "say"
    · subst e1; exact core1 sort_name (by rw [hs]; exact bad_sayW) (by kernel_rfl) (by decide +kernel) (by decide +kernel)
    by_cases e2 : w = "wait"
    · subst e2; exact core1 sort_name (by rw [hs]; exact bad_waitW) (by kernel_rfl) (by decide +kernel) (by decide +kernel)
    by_cases e3 : w = "open"
    · subst e3; exact core1 sort_name (by rw [hs]; exact bad_openW) (by kernel_rfl) (by decide +kernel) (by decide +kernel)
    by_cases e4 : w = "begin"
    · subst e4; exact core1 sort_name (by rw [hs]; exact bad_beginW) (by kernel_rfl) (by decide +kernel) (by decide +kernel)
    by_cases e5 : w = "fail"
    · subst e5; exact core1 sort_name (by rw [hs]; exact bad_failW) (by kernel_rfl) (by decide +kernel) (by decide +kernel)
    by_cases e6 : w = "repeat"
    · subst e6; exact core1 sort_figure (by rw [hs]; exact bad_repeat) (by kernel_rfl) (by decide +kernel) (by decide +kernel)
    by_cases e7 : w = "pause"
    · subst e7; exact core0 (by rw [hs]; exact bad_pause) (by kernel_rfl) (by decide +kernel) (by decide +kernel)
    by_cases e8 : w = "guard"
    · subst e8; exact core0 (by rw [hs]; exact bad_guard) (by kernel_rfl) (by decide +kernel) (by decide +kernel)
    by_cases e9 : w = "give"
    · subst e9; exact core_give R ha hs
    by_cases e10 : w = "each"
    · subst e10; exact core_each R ha hs
    have hno : formOf w = none := by
      unfold formOf
      rw [Option.map_eq_none_iff, List.find?_eq_none]
      intro p hp z
      have z : p.1 = w := of_decide_eq_true z
      have hm : w ∈ formsL.map (·.1) := z ▸ List.mem_map_of_mem hp
      have hq : (formsL.map (·.1)) = [("say" : Str), "pause", "wait", "open", "begin", "fail", "give", "repeat", "guard", "late", "mend", "end", "each", "job", "walk"] := by kernel_rfl
      rw [hq] at hm
      unfold endsL at n2
      simp only [List.any_cons, List.any_nil, Bool.or_false, Bool.or_eq_false_iff, beq_eq_false_iff_ne] at n2
      simp only [List.mem_cons, List.not_mem_nil, or_false] at hm
      rcases hm with q | q | q | q | q | q | q | q | q | q | q | q | q | q | q
      · exact e1 q
      · exact e7 q
      · exact e2 q
      · exact e3 q
      · exact e4 q
      · exact e5 q
      · exact e9 q
      · exact e6 q
      · exact e8 q
      · exact n2.1 q.symm
      · exact n2.2.1 q.symm
      · exact n2.2.2 q.symm
      · exact e10 q
      · exact n1 (.inr q)
      · exact n1 (.inl q)
    rw [hs, bad_other hno, form_none hno]
    rfl
theorem both_add (R : Rel st ls) {w : Str} (n1 : ¬ (w = "walk" ∨ w = "job")) (n2 : endsL.any (· == w) = false) : Both st ls (w :: tl) := by
  have n3 := n2
  unfold endsL at n3
  simp only [List.any_cons, List.any_nil, Bool.or_false, Bool.or_eq_false_iff, beq_eq_false_iff_ne] at n3
  have htk : takeM st (w :: tl) = if hasForm (w :: tl) = false then none else if st.around = [] then none else addM st (nodeOf (w :: tl)) := by
    unfold takeM
    rw [show (w :: tl).getD 0 "" = w from rfl, if_neg (show ¬ (w = "job" ∨ w = "walk") from fun z => n1 z.symm), if_neg (show ¬ (w = "late" ∨ w = "mend") by rintro (z | z); exact n3.1 z.symm; exact n3.2.1 z.symm), if_neg (show ¬ w = "end" from fun z => n3.2.2 z.symm)]
  unfold Both
  rw [htk]
  by_cases ha : st.around = []
  · refine .inl ⟨by rw [if_pos ha]; split <;> rfl, ?_⟩
    rw [R.alike.stk.mp ha]
    unfold lBad
    rw [show (w :: tl).getD 0 "" = w from rfl, if_neg n1]
    exact if_pos rfl
  · rw [core R ha n1 n2, if_neg ha]
    cases hf : hasForm (w :: tl) with
    | false => exact .inl ⟨if_pos rfl, rfl⟩
    | true =>
      rw [if_neg (show ¬ (true = false) by decide)]
      cases hm : mayStandM st (nodeOf (w :: tl)) with
      | false =>
        refine .inl ⟨?_, rfl⟩
        unfold addM
        rw [hm, if_pos rfl]
      | true =>
        have h3 : (w :: tl).getD 0 "" = "each" → 3 ≤ (w :: tl).length := fun z => by
          have z : w = "each" := z
          subst z
          rw [form_each] at hf
          match tl with
          | [] => cases hf
          | [a] => cases hf
          | a :: b :: r => simp
        have h2 : (w :: tl).getD 0 "" = "begin" → 2 ≤ (w :: tl).length := fun z => by
          have z : w = "begin" := z
          subst z
          rw [form1 (s := "name") (by kernel_rfl) (by decide +kernel)] at hf
          match tl with
          | [] => cases hf
          | a :: r => simp
        obtain ⟨st', q1, q2⟩ := add_rel R ha (ps := w :: tl) n1 n2 h3 h2 hm
        exact .inr ⟨st', q1, rfl, q2⟩
end
theorem keeps : StepKeeps Rel := by
  intro st ls row R
  have hne : Txt.split row " " ≠ [] := fun z => by
    have := split_pos row " "
    rw [z] at this
    exact absurd this (by decide)
  cases e : Txt.split row " " with
  | nil => exact absurd e hne
  | cons w tl =>
    by_cases c1 : w = "walk" ∨ w = "job"
    · exact both_define R c1
    by_cases c2 : w = "late" ∨ w = "mend"
    · exact both_mark R c2
    by_cases c3 : w = "end"
    · subst c3
      exact both_end R
    refine both_add R c1 ?_
    unfold endsL
    simp only [List.any_cons, List.any_nil, Bool.or_false, Bool.or_eq_false_iff, beq_eq_false_iff_ne]
    exact ⟨fun z => c2 (.inl z.symm), fun z => c2 (.inr z.symm), fun z => c3 z.symm⟩
/-- the law hears what is due -/
theorem heard_due (text : Str) : heardM text = dueHeard text := heard_of keeps rel_start (fun _ _ R => R.alike) text
end Ly
end
section
set_option Elab.async false
set_option linter.all false
set_option maxRecDepth 100000
/-! Rows of plain signs: what a text of them gives. -/
namespace Ly
open PySem PySem.Spec PyProof.Rows L2
def Sg (c : Nat) : Prop := c < 0x110000 ∧ c ≠ 10
/-- at most n signs, plain ones, no newline -/
structure Rw (n : Nat) (r : Str) : Prop where
  len : r.length ≤ n
  sg : ∀ c ∈ r.cps.toList, Sg c
def rwB (n : Nat) (r : Str) : Bool := decide (r.length ≤ n) && r.cps.toList.all fun c => decide (c < 0x110000) && decide (c ≠ 10)
theorem rw_of {n : Nat} {r : Str} (h : rwB n r = true) : Rw n r := by
  obtain ⟨a, b⟩ := Bool.and_eq_true_iff.mp h
  refine ⟨of_decide_eq_true a, fun c hc => ?_⟩
  obtain ⟨x, y⟩ := Bool.and_eq_true_iff.mp (List.all_eq_true.mp b c hc)
  exact ⟨of_decide_eq_true x, of_decide_eq_true y⟩
theorem rw_all {n : Nat} {l : List Str} (h : l.all (rwB n) = true) : ∀ z ∈ l, Rw n z := fun z hz => rw_of (List.all_eq_true.mp h z hz)
theorem Rw.wider {n m : Nat} {r : Str} (h : Rw n r) (l : n ≤ m) : Rw m r := ⟨Nat.le_trans h.len l, h.sg⟩
theorem Rw.app {n m : Nat} {a b : Str} (h : Rw n a) (k : Rw m b) : Rw (n + m) (a ++ b) := by
  refine ⟨by rw [Str.length_append]; exact Nat.add_le_add h.len k.len, fun c hc => ?_⟩
  rw [Str.cps_append, Array.toList_append] at hc
  rcases List.mem_append.mp hc with q | q
  · exact h.sg c q
  · exact k.sg c q
theorem Rw.pln {n : Nat} {r : Str} (h : Rw n r) : Pln r := by
  show r.cps.all (· < 0x110000) = true
  rw [← Array.all_toList, List.all_eq_true]
  exact fun c hc => decide_eq_true (h.sg c hc).1
/-- the signs of a part are signs of the whole -/
theorem join_mem {sep z : Str} {c : Nat} (hc : c ∈ z.cps.toList) : ∀ {ps : List Str}, z ∈ ps → c ∈ (Str.join sep ps).cps.toList
  | [], h => nomatch h
  | [r], h => by
    cases List.mem_singleton.mp h
    exact hc
  | r :: q :: rs, h => by
    have e : Str.join sep (r :: q :: rs) = r ++ sep ++ Str.join sep (q :: rs) := rfl
    rw [e, Str.cps_append, Str.cps_append, Array.toList_append, Array.toList_append]
    rcases List.mem_cons.mp h with h | h
    · rw [h] at hc
      exact List.mem_append_left _ (List.mem_append_left _ hc)
    · exact List.mem_append_right _ (join_mem hc h)
theorem part_sign {r sep z : Str} {c : Nat} (h : z ∈ Txt.split r sep) (hc : c ∈ z.cps.toList) : c ∈ r.cps.toList := by
  have e : Str.join sep (Txt.split r sep) = r := PySem.StrLaws.join_split r sep
  rw [← e]
  exact join_mem hc h
theorem Rw.part {n : Nat} {r sep z : Str} (h : Rw n r) (hz : z ∈ Txt.split r sep) : Rw n z := ⟨Nat.le_trans (part_short hz) h.len, fun c hc => h.sg c (part_sign hz hc)⟩
theorem join_sg {p : Nat → Prop} {sep : Str} (hs : ∀ c ∈ sep.cps.toList, p c) : ∀ {rows : List Str}, (∀ r ∈ rows, ∀ c ∈ r.cps.toList, p c) → ∀ c ∈ (Str.join sep rows).cps.toList, p c
  | [], _, c, h => by
    have : (Str.join sep []).cps.toList = [] := rfl
    rw [this] at h
    cases h
  | [r], hr, c, h => hr r (List.mem_singleton.mpr rfl) c h
  | r :: q :: rs, hr, c, h => by
    have e : Str.join sep (r :: q :: rs) = r ++ sep ++ Str.join sep (q :: rs) := rfl
    rw [e, Str.cps_append, Str.cps_append, Array.toList_append, Array.toList_append] at h
    rcases List.mem_append.mp h with h | h
    · rcases List.mem_append.mp h with h | h
      · exact hr r (List.mem_cons_self ..) c h
      · exact hs c h
    · exact join_sg hs (fun z hz => hr z (List.mem_cons_of_mem _ hz)) c h
theorem join_many {sep : Str} {n : Nat} (hs : sep.length ≤ 1) : ∀ {rows : List Str}, (∀ r ∈ rows, r.length ≤ n) → (Str.join sep rows).length ≤ rows.length * (n + 1)
  | [], _ => Nat.zero_le _
  | [r], hr => by
    have := hr r (List.mem_singleton.mpr rfl)
    show r.length ≤ 1 * (n + 1)
    omega
  | r :: q :: rs, hr => by
    have e : Str.join sep (r :: q :: rs) = r ++ sep ++ Str.join sep (q :: rs) := rfl
    rw [e, Str.length_append, Str.length_append]
    have h1 := hr r (List.mem_cons_self ..)
    have h2 := join_many hs (n := n) (rows := q :: rs) fun z hz => hr z (List.mem_cons_of_mem _ hz)
    have : (r :: q :: rs).length * (n + 1) = (q :: rs).length * (n + 1) + (n + 1) := by rw [List.length_cons, Nat.succ_mul]
    omega
/-- rows that surely speak of no gate -/
def fixL : List Str := ["end", "guard", "late", "mend", "repeat 1", "repeat 2", "repeat 3"]
def hc (rows : List Str) : Nat := (rows.filter fun r => !fixL.contains r).length
theorem hc_app (a b : List Str) : hc (a ++ b) = hc a + hc b := by unfold hc; rw [List.filter_append, List.length_append]
theorem hc_one (r : Str) : hc [r] ≤ 1 := by
  unfold hc
  exact Nat.le_trans (List.length_filter_le _ _) (Nat.le_refl 1)
theorem hc_cons (r : Str) (a : List Str) : hc (r :: a) ≤ 1 + hc a := by
  have : r :: a = [r] ++ a := rfl
  rw [this, hc_app]
  exact Nat.add_le_add_right (hc_one r) _
theorem hc_sub {a b : List Str} (h : a.Sublist b) : hc a ≤ hc b := (h.filter _).length_le
theorem hc_fix {r : Str} (h : fixL.contains r = true) (a : List Str) : hc (r :: a) = hc a := by
  unfold hc
  rw [List.filter_cons, h]
  rfl
theorem hc_nil : hc [] = 0 := rfl
theorem fix_gates : fixL.all (fun r => !decide ((Txt.split r " ").getD 0 "" = "wait") && !decide ((Txt.split r " ").getD 0 "" = "open")) = true := by decide +kernel
theorem add_many {st st' : RS} {nd : Node} (h : addM st nd = some st') : st'.gates.length ≤ st.gates.length + (if nd.word = "wait" ∨ nd.word = "open" then 1 else 0) := by
  unfold addM at h
  split at h
  · cases h
  · cases Option.some.inj h
    show (if nd.word = "wait" ∨ nd.word = "open" then st.gates ++ [nd.name] else st.gates).length ≤ _
    split
    · rw [List.length_append]; exact Nat.le_refl _
    · exact Nat.le_refl _
theorem def_many {st st' : RS} {ps : List Str} (h : defineM st ps = some st') : st'.gates = st.gates := by
  unfold defineM at h
  generalize hasN (if ps.getD 0 "" = "job" then st.jobs else st.walks) (ps.getD 1 "") = bb at h
  split at h
  · cases h
  · cases Option.some.inj h; rfl
theorem take_many {st st' : RS} {ps : List Str} (h : takeM st ps = some st') : st'.gates.length ≤ st.gates.length + (if ps.getD 0 "" = "wait" ∨ ps.getD 0 "" = "open" then 1 else 0) := by
  unfold takeM at h
  split at h
  · cases h
  · split at h
    · rw [def_many h]; exact Nat.le_add_right _ _
    · split at h
      · cases h
      · split at h
        · unfold markM at h
          split at h
          · cases h
          · cases Option.some.inj h; exact Nat.le_add_right _ _
        · split at h
          · unfold endM at h
            split at h
            · cases h
            · split at h
              · cases Option.some.inj h; exact Nat.le_add_right _ _
              · split at h
                · cases Option.some.inj h; exact Nat.le_add_right _ _
                · cases Option.some.inj h; exact Nat.le_add_right _ _
          · exact add_many h
theorem go_many : ∀ (rows : List Str) (i : Nat) (st st' : RS), goM rows i st = .ok st' → st'.gates.length ≤ st.gates.length + hc rows
  | [], _, st, st', e => by
    cases Except.ok.inj e
    exact Nat.le_add_right _ _
  | r :: rs, i, st, st', e => by
    unfold goM at e
    split at e
    · cases e
    · rename_i s1 e1
      have h1 := go_many rs (i + 1) s1 st' e
      have h2 := take_many e1
      by_cases f : fixL.contains r = true
      · rw [hc_fix f]
        have q := List.all_eq_true.mp fix_gates r (List.contains_iff_mem.mp f)
        obtain ⟨q1, q2⟩ := Bool.and_eq_true_iff.mp q
        have n1 : ¬ ((Txt.split r " ").getD 0 "" = "wait" ∨ (Txt.split r " ").getD 0 "" = "open") := by
          rintro (z | z)
          · rw [decide_eq_true z] at q1; cases q1
          · rw [decide_eq_true z] at q2; cases q2
        rw [if_neg n1] at h2
        omega
      · have e2 : hc (r :: rs) = hc rs + 1 := by
          unfold hc
          rw [List.filter_cons, Bool.eq_false_iff.mpr f]
          rfl
        rw [e2]
        have h3 : (if (Txt.split r " ").getD 0 "" = "wait" ∨ (Txt.split r " ").getD 0 "" = "open" then 1 else 0) ≤ 1 := by split <;> decide
        omega
structure TextOk (text : Str) : Prop where
  len : text.length ≤ 90000
  few : (Txt.split text "\n").length ≤ 900
  pln : ∀ r ∈ Txt.split text "\n", ∀ z ∈ Txt.split r " ", Pln z
  gates : gatesOk text
  all : Pln text
theorem gates_few {text : Str} (h : hc (Txt.split text "\n") < 64) : gatesOk text := by
  unfold gatesOk
  split
  · rename_i st e
    unfold readM at e
    split at e
    · cases e
    · rename_i s1 e1
      have hg : s1.gates.length ≤ 0 + hc (Txt.split text "\n") := go_many _ 0 RS.start s1 e1
      unfold endRows at e
      split at e
      · cases e
      · split at e
        · cases e
        · split at e
          · cases e
          · cases Except.ok.inj e
            omega
  · trivial
theorem rows_text {rows : List Str} (hr : ∀ r ∈ rows, Rw 400 r) (hn : rows.length ≤ 200) (hh : hc rows < 63) : TextOk (Txt.join "\n" rows) := by
  have ej : Txt.join "\n" rows = Str.join "\n" rows := by first | exact (PySem.StrLaws.glued_eq_join _ _) | exact (PySem.StrLaws.glued_eq_join _ _).symm
  have hl : (Txt.join "\n" rows).length ≤ 90000 := by
    have := join_many (sep := "\n") (n := 400) (by decide) (rows := rows) fun r h => (hr r h).len
    rw [ej]
    have : rows.length * 401 ≤ 200 * 401 := Nat.mul_le_mul_right _ hn
    omega
  have hp : Pln (Txt.join "\n" rows) := by
    rw [ej]
    show (Str.join "\n" rows).cps.all (· < 0x110000) = true
    rw [← Array.all_toList, List.all_eq_true]
    exact fun c hc => decide_eq_true (join_sg (p := fun c => c < 0x110000) (sep := "\n") (by decide +kernel) (fun r h c hc => ((hr r h).sg c hc).1) c hc)
  by_cases hne : rows = []
  · subst hne
    have e : Txt.split (Txt.join "\n" []) "\n" = [("" : Str)] := by decide +kernel
    refine ⟨hl, by rw [e]; decide, fun r h z hz => ?_, gates_few (by rw [e]; decide +kernel), hp⟩
    rw [e] at h
    cases List.mem_singleton.mp h
    have : (Txt.split "" " ").all PyData.strOk = true := by decide +kernel
    exact List.all_eq_true.mp this z hz
  · have e : Txt.split (Txt.join "\n" rows) "\n" = rows := TL.split_join (s := 10) (S := []) (by kernel_rfl) (by decide +kernel) hne fun p h z => ((hr p h).sg 10 z).2 rfl
    refine ⟨hl, by rw [e]; omega, fun r h z hz => ?_, gates_few (by rw [e]; omega), hp⟩
    rw [e] at h
    exact ((hr r h).part hz).pln
end Ly
end
section
set_option Elab.async false
set_option linter.all false
set_option maxRecDepth 100000
/-! The law's draws: the box, a number out of it, a member of a list, a list in drawn order. -/
namespace Ly
open PySem PySem.Spec PyProof.Rows L2
/-- three numbers at b -/
def BoxAt (H : Hp) (b : Addr) : Prop := ∃ c s n : Int, H b = some (.lst [.int c, .int s, .int n])
/-- all but b stands as before, and b is a box -/
structure BKp (b : Addr) (H H' : Hp) : Prop where
  box : BoxAt H' b
  keep : ∀ p o, p ≠ b → H p = some o → H' p = some o
theorem BKp.refl {b : Addr} {H : Hp} (h : BoxAt H b) : BKp b H H := ⟨h, fun _ _ _ e => e⟩
theorem BKp.trans {b : Addr} {H H1 H2 : Hp} (x : BKp b H H1) (y : BKp b H1 H2) : BKp b H H2 := ⟨y.box, fun p o n e => y.keep p o n (x.keep p o n e)⟩
theorem BoxAt.same {b : Addr} {H H1 : Hp} (h : BoxAt H b) (s : Same H H1) : BoxAt H1 b := let ⟨c, x, n, e⟩ := h; ⟨c, x, n, s _ _ e⟩
theorem BKp.same {b : Addr} {H H1 H2 : Hp} (x : BKp b H H1) (s : Same H1 H2) : BKp b H H2 := ⟨x.box.same s, fun p o n e => s _ _ (x.keep p o n e)⟩
theorem BoxAt.ne {b p : Addr} {H : Hp} (h : BoxAt H b) (n : H p = none) : b ≠ p := let ⟨_, _, _, e⟩ := h; ne_of_none e n
theorem BKp.put {b : Addr} {H : Hp} {c s n c' s' n' : Int} (h : H b = some (.lst [.int c, .int s, .int n])) : BKp b H (upd H b (.lst [.int c', .int s', .int n'])) :=
  ⟨⟨c', s', n', upd_same⟩, fun p o hp e => by rw [upd_ne hp]; exact e⟩
section
variable {P : Program} {w : World} {K : PySem.W.Frag} {mg : Str → Option Value} {base : Heap}
def spDraw : Sp := fun vs H Q _ => ∃ (b : Addr) (m : Int), vs = [.ref b, .int m] ∧ BoxAt H b ∧ 0 < m ∧ m < 1000000 ∧ ∀ (H' : Hp) (r : Nat), BKp b H H' → (r : Int) < m → Q (.int (r : Int)) H'
theorem sc_draw : FnScope ["_law_box_here", "_law_many", "_law_digit", "_law_raw"] ["_law_box_here", "_law_many"] (defScope t_law_take) := ⟨rfl, rfl, rfl, by decide +kernel, rfl, by decide +kernel, by decide +kernel⟩
theorem fmod_natL {x m : Int} (h : 0 < m) : ∃ r : Nat, x.fmod m = (r : Int) ∧ (r : Int) < m :=
  ⟨(x.fmod m).toNat, by have := Int.fmod_nonneg_of_pos x h; omega, by have := Int.fmod_nonneg_of_pos x h; have := Int.fmod_lt_of_pos x h; omega⟩
theorem ok_draw {f : Addr} {fd : FuncData} (F : Fun K "_law_take" "_law_take" t_law_take f fd) (B : Bt mg) : FnOk P w K mg base CX0 1 f fd ["_law_box_here", "_law_many"] spDraw := by
  refine F.ok sc_draw (fun vs H Q E h => ?_) (fun cdv A outer s H vs Q E hr h => ?_)
  · obtain ⟨b, m, rfl, _⟩ := h
    rfl
  · obtain ⟨b, m, rfl, ⟨c, sd, n, hb⟩, m0, m1, k⟩ := h
    have nod := sc_draw.nd
    refine ⟨_, pss_cons (ps_if (pt_cmpR op_gt (pe_ix ix_list (pv 0) pe_int (fun _ _ => rfl)) pe_int (nomark _))
        (pss_cons (ps_set (i := 2) nod rfl (Or.inl rfl) (pe_op op_modN (pe_callTy call_int1 rfl B.int (by decide +kernel) (pa_cons (pe_ix ix_list (pv 0) pe_int (fun _ _ => rfl)) pa_nil)) (pv 1)))
        (pss_cons (ps_asg (pe_op op_fdivN (pe_ix ix_list (pv 0) pe_int (fun _ _ => rfl)) (pv 1)) (pg_sub (pv 0) pe_int set_list))
        (pss_one (ps_ret (pv 2))))) pss_nil)
      (pss_cons (ps_asg (pe_op op_add (pe_ix ix_list (pv 0) pe_int (fun _ _ => rfl)) pe_int) (pg_sub (pv 0) pe_int set_list))
      (pss_cons (ps_set (i := 3) nod rfl (Or.inl rfl) (pe_op op_modN (pe_callTy call_int1 rfl B.int (by decide +kernel) (pa_cons (pe_op op_mul (pe_op op_add (pe_ix ix_list (pv 0) pe_int (fun _ _ => rfl)) (pe_op op_mul pe_int (pe_ix ix_list (pv 0) pe_int (fun _ _ => rfl)))) pe_int) pa_nil)) pe_int))
      (pss_cons (ps_asg (pe_op op_add (pe_op op_modN (pe_callTy call_int1 rfl B.int (by decide +kernel) (pa_cons (pe_op op_add (pe_op op_mul (pv 3) pe_int) pe_int) pa_nil)) pe_int) pe_int) (pg_sub (pv 0) pe_int set_list))
      (pss_one (ps_ret (pe_op op_modN (pe_callTy call_int1 rfl B.int (by decide +kernel) (pa_cons (pe_op op_fdivN (pe_op op_add (pe_op op_mul (pv 3) pe_int) (pe_ix ix_list (pv 0) pe_int (fun _ _ => rfl))) pe_int) pa_nil)) (pv 1))))))), ?_⟩
    refine ⟨_, rfl, b, _, _, _, rfl, rfl, SqL.of hb, atI_nat (j := 0) rfl, _, _, rfl, rfl, _, rfl, ?_⟩
    by_cases hc : 0 < c
    · refine iteT' (decide_eq_true hc) ?_
      refine ⟨_, rfl, b, _, _, _, rfl, rfl, SqL.of hb, atI_nat (j := 0) rfl, .inl ⟨_, rfl, ?_⟩⟩
      refine ⟨_, rfl, _, _, rfl, rfl, by omega, nx_of (nx_mk ?_)⟩
      refine ⟨_, rfl, b, _, _, _, rfl, rfl, SqL.of hb, atI_nat (j := 0) rfl, _, rfl, _, _, rfl, rfl, ⟨by omega, by omega⟩, ?_⟩
      refine ⟨_, rfl, b, _, _, 0, rfl, rfl, hb, rfl, nx_mk ?_⟩
      obtain ⟨r, er, hr⟩ := fmod_natL (x := c) m0
      have kk := k _ r (BKp.put hb (c' := c.fdiv m) (s' := sd) (n' := n)) hr
      rw [← er] at kk
      exact ⟨_, rfl, kk⟩
    · refine iteF' (decide_eq_false hc) (nx_mk ?_)
      refine ⟨_, rfl, b, _, _, _, rfl, rfl, SqL.of hb, atI_nat (j := 2) rfl, _, _, rfl, rfl, ?_⟩
      refine ⟨_, rfl, b, _, _, 2, rfl, rfl, hb, rfl, nx_mk ?_⟩
      dsimp only
      have hb1 : upd H b (.lst ([V.int c, V.int sd, V.int n].set 2 (V.int (n + 1)))) b = some (.lst [.int c, .int sd, .int (n + 1)]) := upd_same
      have k1 : BKp b H (upd H b (.lst ([V.int c, V.int sd, V.int n].set 2 (V.int (n + 1))))) := BKp.put hb
      generalize upd H b (.lst ([V.int c, V.int sd, V.int n].set 2 (V.int (n + 1)))) = H1 at hb1 k1
      refine ⟨_, rfl, b, _, _, _, rfl, rfl, SqL.of hb1, atI_nat (j := 1) rfl, _, rfl, b, _, _, _, rfl, rfl, SqL.of hb1, atI_nat (j := 2) rfl, _, _, rfl, rfl, .inl ⟨by decide, by decide⟩, _, _, rfl, rfl, ?_⟩
      refine ⟨_, _, rfl, rfl, .inr ⟨by decide, by decide⟩, .inl ⟨_, rfl, _, _, rfl, rfl, (show (2147483647 : Int) ≠ 0 by decide), nx_of (nx_mk ?_)⟩⟩
      dsimp only
      generalize ((sd + 104729 * (n + 1)) * 69623).fmod 2147483647 = raw
      refine ⟨_, rfl, _, _, rfl, rfl, .inr ⟨by decide, by decide⟩, _, _, rfl, rfl, .inl ⟨_, rfl, _, _, rfl, rfl, (show (2147483629 : Int) ≠ 0 by decide), _, _, rfl, rfl, ?_⟩⟩
      refine ⟨_, rfl, b, _, _, 1, rfl, rfl, hb1, rfl, nx_mk ?_⟩
      dsimp only
      generalize e1 : (raw * 48271 + 30103).fmod 2147483629 + 1 = s1
      have hb2 : upd H1 b (.lst ([V.int c, V.int sd, V.int (n + 1)].set 1 (V.int s1))) b = some (.lst [.int c, .int s1, .int (n + 1)]) := upd_same
      have k2 : BKp b H1 (upd H1 b (.lst ([V.int c, V.int sd, V.int (n + 1)].set 1 (V.int s1)))) := BKp.put hb1
      generalize upd H1 b (.lst ([V.int c, V.int sd, V.int (n + 1)].set 1 (V.int s1))) = H2 at hb2 k2 ⊢
      refine ⟨_, rfl, _, _, rfl, rfl, .inr ⟨by decide, by decide⟩, _, rfl, b, _, _, _, rfl, rfl, SqL.of hb2, atI_nat (j := 1) rfl, _, _, rfl, rfl, _, _, rfl, rfl, ⟨by decide, by decide⟩, .inl ⟨_, rfl, ?_⟩⟩
      refine ⟨_, rfl, _, _, rfl, rfl, by omega, ?_⟩
      obtain ⟨r, er, hr⟩ := fmod_natL (x := (raw * 2147483647 + s1).fdiv 8191) m0
      have kk := k _ r (k1.trans k2) hr
      rw [← er] at kk
      exact kk
end
end Ly
end
section
set_option Elab.async false
set_option linter.all false
set_option maxRecDepth 100000
/-! A text so many times; a member of a list of texts; texts in a drawn order; the source of draws. -/
namespace Ly
open PySem PySem.Spec PyProof.Rows L2
theorem same_lst {K : PySem.W.Frag} {H H' : Hp} {a : Addr} {xs : List V} (e : Same H H') (h : SqL K H a xs) : SqL K H' a xs := by
  rcases h with (h | ⟨o, h⟩) | h
  · exact .inl (.inl (e _ _ h))
  · exact .inl (.inr ⟨o, e _ _ h⟩)
  · exact .inr h
/-- x * n -/
def repS (x : Str) (n : Nat) : Str := ⟨(List.replicate n x.cps).foldl (· ++ ·) #[]⟩
theorem fold_app : ∀ (l : List (Array Nat)) (a : Array Nat), (l.foldl (· ++ ·) a).toList = a.toList ++ (l.map (·.toList)).flatten
  | [], a => by simp
  | x :: l, a => by
    rw [List.foldl_cons, fold_app l, Array.toList_append, List.map_cons, List.flatten_cons, List.append_assoc]
theorem repS_list (x : Str) (n : Nat) : (repS x n).cps.toList = (List.replicate n x.cps.toList).flatten := by
  unfold repS
  rw [fold_app, List.map_replicate]
  simp
theorem repS_rw {m : Nat} {x : Str} (h : Rw m x) (n : Nat) : Rw (n * m) (repS x n) := by
  refine ⟨?_, fun c hc => ?_⟩
  · show (repS x n).cps.size ≤ _
    rw [← Array.length_toList, repS_list, List.length_flatten, List.map_replicate, List.sum_replicate_nat]
    exact Nat.mul_le_mul_left _ (by rw [Array.length_toList]; exact h.len)
  · rw [repS_list] at hc
    obtain ⟨l, hl, hcl⟩ := List.mem_flatten.mp hc
    rw [List.eq_of_mem_replicate hl] at hcl
    exact h.sg c hcl
theorem repS_one (x : Str) : repS x 1 = x := by
  refine PySem.Str.ext' (Array.toList_inj.mp ?_)
  rw [repS_list]
  simp
theorem op_mul_str {X : Cx} : OpR X (binaryOp .Mult) (fun x y H Q => ∃ (a : Str) (n : Nat), x = .str a ∧ y = .int (n : Int) ∧ n ≤ 1000 ∧ a.length ≤ 1000 ∧ Q (.str (repS a n)) H) := by
  intro pins s σ H x y v u Q I rx ry h
  obtain ⟨a, n, rfl, rfl, hn, ha, q⟩ := h
  obtain ⟨t, rfl⟩ := rx
  obtain ⟨t', rfl⟩ := ry
  have hmul : a.length * n ≤ 1000000 := Nat.mul_le_mul ha hn
  refine P.mul_str ?_ (fun h1 _ h3 => ?_) (fun h1 _ => ?_) ?_
  · rw [decide_eq_false (by omega), decide_eq_false (by omega)]; rfl
  · have hn1 : (1 : Int) ≤ n := by omega
    have : ((a.length : Int)) ≤ (2 ^ 63 - 1) / n := by
      rw [Int.le_ediv_iff_mul_le (by omega)]
      have : ((a.length * n : Nat) : Int) ≤ 1000000 := Int.ofNat_le.mpr hmul
      rw [Int.natCast_mul] at this
      omega
    omega
  · unfold Builtin.Str.tooLong
    rw [sizeLine_eq]
    exact decide_eq_false (by rw [Int.toNat_natCast]; omega)
  · by_cases c1 : (n : Int) < 1
    · rw [if_pos c1]
      have e : n = 0 := by omega
      subst e
      exact ⟨by decide, ⟨.str (repS a 0), H, I.tok _, ⟨_, rfl⟩, q⟩⟩
    · rw [if_neg c1]
      by_cases c2 : ((n : Int) == 1 || a.length == 0) = true
      · rw [if_pos c2]
        have e : repS a n = a := by
          rcases Bool.or_eq_true_iff.mp c2 with z | z
          · have : n = 1 := by have := eq_of_beq z; omega
            rw [this, repS_one]
          · have z : a.length = 0 := eq_of_beq z
            refine PySem.Str.ext' (Array.toList_inj.mp ?_)
            rw [repS_list]
            have : a.cps.toList = [] := List.eq_nil_of_length_eq_zero (by rw [Array.length_toList]; exact z)
            rw [this]
            simp
        rw [e] at q
        exact ⟨.str a, H, I, ⟨_, rfl⟩, q⟩
      · rw [if_neg c2]
        refine ⟨?_, ⟨.str (repS a n), H, I.tok _, ⟨_, rfl⟩, q⟩⟩
        show (repS a n).cps.size ≤ sizeLine
        rw [← Array.length_toList, repS_list, List.length_flatten, List.map_replicate, List.sum_replicate_nat, sizeLine_eq, Array.length_toList]
        have : n * a.cps.size = a.length * n := Nat.mul_comm _ _
        omega
section
variable {P : Program} {w : World} {K : PySem.W.Frag} {mg : Str → Option Value} {base : Heap}
def spPick : Sp := fun vs H Q _ => ∃ (b q : Addr) (zs : List Str), vs = [.ref b, .ref q] ∧ BoxAt H b ∧ H q = some (.lst (zs.map V.str)) ∧ 0 < zs.length ∧ zs.length < 1000 ∧ ∀ (H' : Hp) (z : Str), BKp b H H' → z ∈ zs → Q (.str z) H'
/-- a list of texts is no box -/
theorem box_ne {H : Hp} {b q : Addr} {zs : List Str} (hb : BoxAt H b) (hq : H q = some (.lst (zs.map V.str))) : q ≠ b := by
  rintro rfl
  obtain ⟨c, s, n, e⟩ := hb
  rw [hq] at e
  cases zs with
  | nil => cases e
  | cons z zs => cases e
theorem sc_pick : FnScope ["_law_box_here", "_law_items"] ["_law_box_here", "_law_items"] (defScope t_law_pick) := ⟨rfl, rfl, rfl, by decide +kernel, rfl, by decide +kernel, by decide +kernel⟩
theorem ok_pick {f ft : Addr} {fd dt : FuncData} (F : Fun K "_law_pick" "_law_pick" t_law_pick f fd) (B : Bt mg) (GT : FnOk P w K mg base CX0 1 ft dt ["_law_box_here", "_law_many"] spDraw) (aT : mg "_law_take" = some (.ref ft)) (kT : PySem.W.keepIn K (.ref ft) = true) (bT : Binds K dt ["_law_box_here", "_law_many"] []) :
    FnOk P w K mg base CX0 2 f fd ["_law_box_here", "_law_items"] spPick := by
  refine F.ok sc_pick (fun vs H Q E h => ?_) (fun cdv A outer s H vs Q E hr h => ?_)
  · obtain ⟨b, q, zs, rfl, _⟩ := h
    rfl
  · obtain ⟨b, q, zs, rfl, hb, hq, h0, h1, k⟩ := h
    have nq := box_ne hb hq
    refine ⟨_, pss_one (ps_ret (pe_ix ix_list (pv 1) (pe_call GT hr rfl aT kT bT .nil pass0 (pa_cons (pv 0) (pa_cons (pLenQ B.len (pv 1)) pa_nil))) (fun _ _ => rfl))), ?_⟩
    refine ⟨_, rfl, _, rfl, _, rfl, q, _, rfl, .inl (SqL.of hq), b, _, rfl, hb, ?_, ?_, fun H1 r k1 hr1 => ?_⟩
    · rw [List.length_map]; omega
    · rw [List.length_map]; omega
    rw [List.length_map] at hr1
    have hz : zs[r]? = some (zs[r]'(by omega)) := List.getElem?_eq_getElem (by omega)
    exact ⟨q, _, _, V.str (zs[r]'(by omega)), rfl, rfl, SqL.of (k1.keep _ _ nq hq), atI_nat (by rw [List.getElem?_map, hz]; rfl), k _ _ k1 (List.getElem_mem (by omega))⟩
/-! texts in a drawn order -/
def spMix : Sp := fun vs H Q _ => ∃ (b q : Addr) (zs : List Str), vs = [.ref b, .ref q] ∧ BoxAt H b ∧ H q = some (.lst (zs.map V.str)) ∧ zs.length < 1000 ∧ (∀ z ∈ zs, Pln z) ∧
  ∀ (H' : Hp) (l : Addr) (out : List Str), BKp b H H' → H l = none → H' l = some (.lst (out.map V.str)) → out.Perm zs → Q (.ref l) H'
structure MsInv (H H' : Hp) (b l f : Addr) (zs left out : List Str) : Prop where
  k : BKp b H H'
  l_ : H' l = some (.lst (left.map V.str))
  f_ : H' f = some (.lst (out.map V.str))
  nl : H l = none
  nf : H f = none
  lf : l ≠ f
  pm : (left ++ out).Perm zs
theorem erase_map : ∀ (zs : List Str) (r : Nat), (zs.map V.str).eraseIdx r = (zs.eraseIdx r).map V.str
  | [], _ => rfl
  | _ :: _, 0 => rfl
  | x :: zs, r + 1 => by
    show V.str x :: (zs.map V.str).eraseIdx r = V.str x :: (zs.eraseIdx r).map V.str
    rw [erase_map zs r]
theorem erase_perm : ∀ (zs : List Str) (r : Nat) (h : r < zs.length) (out : List Str), (zs.eraseIdx r ++ (out ++ [zs[r]])).Perm (zs ++ out)
  | x :: zs, 0, _, out => by
    show (zs ++ (out ++ [x])).Perm (x :: (zs ++ out))
    rw [← List.append_assoc]
    exact List.perm_append_comm
  | x :: zs, r + 1, h, out => by
    have h2 : r < zs.length := Nat.lt_of_succ_lt_succ h
    show (x :: (zs.eraseIdx r ++ (out ++ [zs[r]'h2]))).Perm (x :: (zs ++ out))
    exact (erase_perm zs r h2 out).cons x
theorem sc_mixed : FnScope ["_law_box_here", "_law_items", "_law_left", "_law_found"] ["_law_box_here", "_law_items"] (defScope t_law_mixed) := ⟨rfl, rfl, rfl, by decide +kernel, rfl, by decide +kernel, by decide +kernel⟩
theorem ok_mix {f ft : Addr} {fd dt : FuncData} (F : Fun K "_law_mixed" "_law_mixed" t_law_mixed f fd) (B : Bt mg) (GT : FnOk P w K mg base CX0 1 ft dt ["_law_box_here", "_law_many"] spDraw) (aT : mg "_law_take" = some (.ref ft)) (kT : PySem.W.keepIn K (.ref ft) = true) (bT : Binds K dt ["_law_box_here", "_law_many"] []) :
    FnOk P w K mg base CX0 2 f fd ["_law_box_here", "_law_items"] spMix := by
  refine F.ok sc_mixed (fun vs H Q E h => ?_) (fun cdv A outer s H vs Q E hr h => ?_)
  · obtain ⟨b, q, zs, rfl, _⟩ := h
    rfl
  · obtain ⟨b, q, zs, rfl, hb, hq, hn, hpl, k⟩ := h
    have nod := sc_mixed.nd
    have hu : (A.deeper (envOfC "_law_mixed" (defScope t_law_mixed) s.heap.objs.size f cdv)).units + 64 < cLine := hr.units
    refine ⟨_, pss_cons (ps_par (i := 2) (j := 3) (by rfl) nod rfl rfl (by decide) rfl rfl (pa_cons (pe_callTy call_list_of rfl B.list (by decide +kernel) (pa_cons (pv 1) pa_nil)) (pa_cons (pe_lst pa_nil) pa_nil)) (by rfl))
      (pss_cons (ps_while PassesOwn.never (pt_cmpR (op_neD hu) (pv 2) (pe_lst pa_nil) (nomark _))
        (pss_one (ps_expr (pAppend (pv 3) (pe_bm PySem.F.plainAttrs_list PySem.F.slot_list_pop PySem.F.type_list_pop mt_popAt (pv 2) (pa_cons (pe_call GT hr rfl aT kT bT .nil pass0 (pa_cons (pv 0) (pa_cons (pLenQ B.len (pv 2)) pa_nil))) pa_nil))))))
      (pss_one (ps_ret (pv 3)))), ?_⟩
    refine ⟨_, rfl, q, _, rfl, .inl (SqL.of hq), fun l nl => ⟨by show 0 ≤ sizeLine; decide, fun fo nfo => ⟨_, _, rfl, nx_mk ?_⟩⟩⟩
    have hl1 : upd (upd H l (.lst (zs.map V.str))) fo (.lst []) l = some (.lst (zs.map V.str)) := by rw [upd_ne (ne_of_none upd_same nfo), upd_same]
    have s1 : Same H (upd (upd H l (.lst (zs.map V.str))) fo (.lst [])) := (same_new nl).trans (same_new nfo)
    have nf : H fo = none := by
      have := nfo
      rw [upd_ne (ne_of_none upd_same nfo).symm] at this
      exact this
    have nlf : l ≠ fo := ne_of_none upd_same nfo
    have hf1 : upd (upd H l (.lst (zs.map V.str))) fo (.lst []) fo = some (.lst []) := upd_same
    generalize upd (upd H l (.lst (zs.map V.str))) fo (.lst []) = H1 at s1 hl1 hf1 ⊢
    refine while_by (fun σ H' => ∃ left out, σ = [some (.ref b), some (.ref q), some (.ref l), some (.ref fo)] ∧ MsInv H H' b l fo zs left out)
      (fun σ H' => match H' l with | some (.lst xs) => xs.length | _ => 0) ?_ ?_ ?_
    · exact ⟨zs, [], rfl, ⟨(BKp.refl hb).same s1, hl1, hf1, nl, nf, nlf, by rw [List.append_nil]⟩⟩
    · rintro σ H2 ⟨left, out, rfl, I⟩
      have hsum : left.length + out.length = zs.length := by rw [← List.length_append]; exact I.pm.length_eq
      refine ⟨_, rfl, by show 0 ≤ sizeLine; decide, fun e ne => ?_⟩
      have se := same_new (o := .lst []) ne
      have hlp : ∀ z ∈ left, Pln z := fun z hz => hpl z (I.pm.mem_iff.mp (List.mem_append_left _ hz))
      obtain ⟨d2, d3⟩ := shaped_strs left hlp
      refine ⟨.list (left.map PyData.str), .list [], .lst (SqL.of (se _ _ I.l_)) (dp_strs left), .lst (SqL.of upd_same) .nil, ?_, by decide +kernel, _, rfl, ?_⟩
      · show (PyData.canLayAll0 _ && decide (PyData.depth (.list (left.map PyData.str)) ≤ 64)) = true
        rw [d2, Bool.true_and]
        refine decide_eq_true ?_
        unfold PyData.depth
        rw [d3]
        decide
      rw [eqv_nil]
      have hl3 := se _ _ I.l_
      have hf3 := se _ _ I.f_
      have k3 := I.k.same se
      generalize upd H2 e (.lst []) = H3 at hl3 hf3 k3
      clear se
      by_cases h0 : left = []
      · subst h0
        refine iteF (nx_mk ?_)
        exact ⟨_, rfl, k _ fo out k3 I.nf hf3 I.pm⟩
      · have hlen : 0 < left.length := List.length_pos_iff.mpr h0
        refine iteT' (by cases left with | nil => exact absurd rfl h0 | cons _ _ => rfl) ?_
        refine ⟨_, rfl, .inl ⟨rfl, _, SqL.of hf3⟩, _, rfl, .inl ⟨rfl, _, SqL.of hl3⟩, _, rfl, _, rfl, l, _, rfl, .inl (SqL.of hl3), b, _, rfl, k3.box, ?_, ?_, fun H4 r k4 hr4 => ?_⟩
        · rw [List.length_map]; omega
        · rw [List.length_map]; omega
        have hr5 : r < left.length := by rw [List.length_map] at hr4; omega
        have nlb : l ≠ b := (hb.ne nl).symm
        have nfb : fo ≠ b := (hb.ne nf).symm
        have hl4 := k4.keep _ _ nlb hl3
        have hf4 := k4.keep _ _ nfb hf3
        have hx : left[r]? = some (left[r]'hr5) := List.getElem?_eq_getElem hr5
        refine ⟨l, _, _, r, V.str (left[r]'hr5), rfl, rfl, hl4, by omega, by omega, ?_, ?_, ?_⟩
        · rw [seqIndex_of (by omega) (by rw [List.length_map]; omega)]
          rfl
        · rw [List.getElem?_map, hx]; rfl
        have hf5 : upd H4 l (.lst ((left.map V.str).eraseIdx r)) fo = some (.lst (out.map V.str)) := by rw [upd_ne I.lf.symm]; exact hf4
        refine ⟨fo, _, _, rfl, rfl, hf5, by rw [List.length_map, sizeLine_eq]; omega, nx_mk ?_⟩
        rw [erase_map]
        have eo : out.map V.str ++ [V.str (left[r]'hr5)] = (out ++ [left[r]'hr5]).map V.str := by rw [List.map_append]; rfl
        rw [eo]
        have le : (left.eraseIdx r).length = left.length - 1 := List.length_eraseIdx_of_lt hr5
        refine ⟨⟨left.eraseIdx r, out ++ [left[r]'hr5], rfl, ⟨?_, ?_, upd_same, I.nl, I.nf, I.lf, (erase_perm left r hr5 out).trans I.pm⟩⟩, ?_⟩
        · have kk := k3.trans k4
          refine ⟨?_, fun p o hp ho => ?_⟩
          · obtain ⟨c, s, n, eb⟩ := kk.box
            exact ⟨c, s, n, by rw [upd_ne nfb.symm, upd_ne nlb.symm]; exact eb⟩
          · rw [upd_ne (ne_of_none ho I.nf), upd_ne (ne_of_none ho I.nl)]
            exact kk.keep p o hp ho
        · rw [upd_ne I.lf, upd_same]
        · show (match upd (upd H4 l (.lst ((left.eraseIdx r).map V.str))) fo (.lst ((out ++ [left[r]'hr5]).map V.str)) l with | some (.lst xs) => xs.length | _ => 0) < (match H2 l with | some (.lst xs) => xs.length | _ => 0)
          rw [upd_ne I.lf, upd_same, I.l_]
          show ((left.eraseIdx r).map V.str).length < (left.map V.str).length
          rw [List.length_map, List.length_map, le]
          omega
    · intro σ H2 Q1 Q2 hq h
      obtain ⟨v, e, hl, h⟩ := h
      exact ⟨v, e, hl, fun l nl => by
        obtain ⟨d, e, a1, a2, a3, a4, k, ek, h⟩ := h l nl
        exact ⟨d, e, a1, a2, a3, a4, k, ek, hq _ _ h⟩⟩
end
end Ly
end
section
set_option Elab.async false
set_option linter.all false
set_option maxRecDepth 100000
/-! Rows that surely may stand: what the law's reader does with them. -/
namespace Ly
open PySem PySem.Spec PyProof.Rows L2
/-- no blank in it -/
def NoBl (z : Str) : Prop := 32 ∉ z.cps.toList
def noBlB (z : Str) : Bool := z.cps.toList.all fun c => decide (c ≠ 32)
theorem noBl_of {z : Str} (h : noBlB z = true) : NoBl z := fun m => absurd rfl (of_decide_eq_true (List.all_eq_true.mp h 32 m))
theorem name_noBl {z : Str} (h : isName z = true) : NoBl z := fun m => by
  obtain ⟨_, h2⟩ := Bool.and_eq_true_iff.mp h
  have := List.all_eq_true.mp h2 32 m
  exact absurd this (by decide +kernel)
theorem split_parts {ps : List Str} (hne : ps ≠ []) (h : ∀ p ∈ ps, NoBl p) : Txt.split (Str.join " " ps) " " = ps := by
  have ej : Txt.join " " ps = Str.join " " ps := by first | exact (PySem.StrLaws.glued_eq_join _ _) | exact (PySem.StrLaws.glued_eq_join _ _).symm
  rw [← ej]
  exact TL.split_join (s := 32) (S := []) (by kernel_rfl) (by decide +kernel) hne h
theorem split_one {a : Str} (h : NoBl a) : Txt.split a " " = [a] := split_parts (ps := [a]) (by simp) fun p hp => by rw [List.mem_singleton.mp hp]; exact h
theorem split_two {a z : Str} (ha : NoBl a) (hz : NoBl z) : Txt.split (a ++ " " ++ z) " " = [a, z] := split_parts (ps := [a, z]) (by simp) fun p hp => by
  rcases List.mem_cons.mp hp with q | q
  · rw [q]; exact ha
  · rw [List.mem_singleton.mp q]; exact hz
theorem app_assoc (a b c : Str) : a ++ b ++ c = a ++ (b ++ c) := by
  refine PySem.Str.ext' (Array.toList_inj.mp ?_)
  rw [Str.cps_append, Str.cps_append, Str.cps_append, Str.cps_append, Array.toList_append, Array.toList_append, Array.toList_append, Array.toList_append, List.append_assoc]
theorem app_empty (a : Str) : a ++ "" = a := by
  refine PySem.Str.ext' (Array.toList_inj.mp ?_)
  rw [Str.cps_append, Array.toList_append]
  show a.cps.toList ++ [] = _
  rw [List.append_nil]
theorem split_three {a b c : Str} (ha : NoBl a) (hb : NoBl b) (hc : NoBl c) : Txt.split (a ++ " " ++ b ++ " " ++ c) " " = [a, b, c] := by
  have := split_parts (ps := [a, b, c]) (by simp) fun p hp => by
    rcases List.mem_cons.mp hp with q | q
    · rw [q]; exact ha
    · rcases List.mem_cons.mp q with q | q
      · rw [q]; exact hb
      · rw [List.mem_singleton.mp q]; exact hc
  rw [← this]
  congr 1
  show _ = a ++ " " ++ (b ++ " " ++ c)
  simp only [app_assoc]
theorem split_four {a b c d : Str} (ha : NoBl a) (hb : NoBl b) (hc : NoBl c) (hd : NoBl d) : Txt.split (a ++ " " ++ b ++ " " ++ c ++ (" " ++ d)) " " = [a, b, c, d] := by
  have := split_parts (ps := [a, b, c, d]) (by simp) fun p hp => by
    rcases List.mem_cons.mp hp with q | q
    · rw [q]; exact ha
    · rcases List.mem_cons.mp q with q | q
      · rw [q]; exact hb
      · rcases List.mem_cons.mp q with q | q
        · rw [q]; exact hc
        · rw [List.mem_singleton.mp q]; exact hd
  rw [← this]
  congr 1
  show _ = a ++ " " ++ (b ++ " " ++ (c ++ " " ++ d))
  simp only [app_assoc]
/-! the law's reader, row by row -/
theorem lgo_app : ∀ (a b : List Str) (i : Nat) (ls ls' : LSt), lGo a i ls = .ok ls' → lGo (a ++ b) i ls = lGo b (i + a.length) ls'
  | [], b, i, ls, ls', e => by
    cases Except.ok.inj e
    rfl
  | r :: a, b, i, ls, ls', e => by
    have e' : (if lBad ls.stk ls.tw ls.tj (Txt.split r " ") = true then (.error i : Except Nat LSt) else lGo a (i + 1) (lStep ls (Txt.split r " "))) = .ok ls' := e
    show (if lBad ls.stk ls.tw ls.tj (Txt.split r " ") = true then (.error i : Except Nat LSt) else lGo (a ++ b) (i + 1) (lStep ls (Txt.split r " "))) = _
    cases c : lBad ls.stk ls.tw ls.tj (Txt.split r " ") with
    | true => rw [c, if_pos rfl] at e'; cases e'
    | false =>
      rw [c, if_neg Bool.false_ne_true] at e'
      rw [if_neg Bool.false_ne_true, lgo_app a b (i + 1) _ ls' e', List.length_cons]
      congr 1
      omega
def Thru (ls ls' : LSt) (zs : List Str) : Prop := ∀ i, lGo zs i ls = .ok ls'
theorem Thru.nil (ls : LSt) : Thru ls ls [] := fun _ => rfl
theorem Thru.app {l1 l2 l3 : LSt} {a b : List Str} (x : Thru l1 l2 a) (y : Thru l2 l3 b) : Thru l1 l3 (a ++ b) := fun i => by rw [lgo_app a b i l1 l2 (x i)]; exact y _
theorem Thru.one {ls ls' : LSt} {r : Str} {ps : List Str} (e : Txt.split r " " = ps) (hb : lBad ls.stk ls.tw ls.tj ps = false) (hs : lStep ls ps = ls') : Thru ls ls' [r] := fun i => by
  show (if lBad ls.stk ls.tw ls.tj (Txt.split r " ") = true then (.error i : Except Nat LSt) else lGo [] (i + 1) (lStep ls (Txt.split r " "))) = _
  rw [e, hb, if_neg Bool.false_ne_true, hs]
  rfl
theorem step_open {ls : LSt} {w : Str} {tl : List Str} (e : lStep ls (w :: tl) = { ls with stk := ls.stk ++ [(w :: tl).take 3], dp := max ls.dp ls.stk.length }) : lStep ls (w :: tl) = { ls with stk := ls.stk ++ [(w :: tl).take 3], dp := max ls.dp ls.stk.length } := e
theorem step_end {ls : LSt} {s : List (List Str)} {f : List Str} (e : ls.stk = s ++ [f]) (hs : s ≠ []) : lStep ls [("end" : Str)] = { ls with stk := s } := by
  have e1 : ls.stk.dropLast = s := by rw [e, List.dropLast_concat]
  have q : lStep ls [("end" : Str)] = (if (ls.stk.dropLast ++ []).isEmpty = true then (if (ls.stk.getLastD []).getD 0 "" = "walk" then { ls with stk := ls.stk.dropLast ++ [], tw := ls.tw ++ [(ls.stk.getLastD []).getD 1 ""] } else { ls with stk := ls.stk.dropLast ++ [], tj := ls.tj ++ [(ls.stk.getLastD []).getD 1 ""] }) else { ls with stk := ls.stk.dropLast ++ [] }) := rfl
  rw [q, e1, List.append_nil, if_neg]
  intro h
  exact hs (List.isEmpty_iff.mp h)
theorem step_last {ls : LSt} {f : List Str} (e : ls.stk = [f]) : lStep ls [("end" : Str)] = (if f.getD 0 "" = "walk" then { ls with stk := [], tw := ls.tw ++ [f.getD 1 ""] } else { ls with stk := [], tj := ls.tj ++ [f.getD 1 ""] }) := by
  have q : lStep ls [("end" : Str)] = (if (ls.stk.dropLast ++ []).isEmpty = true then (if (ls.stk.getLastD []).getD 0 "" = "walk" then { ls with stk := ls.stk.dropLast ++ [], tw := ls.tw ++ [(ls.stk.getLastD []).getD 1 ""] } else { ls with stk := ls.stk.dropLast ++ [], tj := ls.tj ++ [(ls.stk.getLastD []).getD 1 ""] }) else { ls with stk := ls.stk.dropLast ++ [] }) := rfl
  rw [q, e]
  rfl
theorem step_mark {ls : LSt} {s : List (List Str)} {f : List Str} {w : Str} (e : ls.stk = s ++ [f]) (hw : w = "late" ∨ w = "mend") : lStep ls [w] = { ls with stk := s ++ [[w]] } := by
  have e1 : ls.stk.dropLast = s := by rw [e, List.dropLast_concat]
  have ne : (s ++ [[w]]).isEmpty = false := by cases s <;> rfl
  rcases hw with rfl | rfl
  · have q : lStep ls [("late" : Str)] = (if (ls.stk.dropLast ++ [[("late" : Str)]]).isEmpty = true then (if (ls.stk.getLastD []).getD 0 "" = "walk" then { ls with stk := ls.stk.dropLast ++ [[("late" : Str)]], tw := ls.tw ++ [(ls.stk.getLastD []).getD 1 ""] } else { ls with stk := ls.stk.dropLast ++ [[("late" : Str)]], tj := ls.tj ++ [(ls.stk.getLastD []).getD 1 ""] }) else { ls with stk := ls.stk.dropLast ++ [[("late" : Str)]] }) := rfl
    rw [q, e1, ne, if_neg Bool.false_ne_true]
  · have q : lStep ls [("mend" : Str)] = (if (ls.stk.dropLast ++ [[("mend" : Str)]]).isEmpty = true then (if (ls.stk.getLastD []).getD 0 "" = "walk" then { ls with stk := ls.stk.dropLast ++ [[("mend" : Str)]], tw := ls.tw ++ [(ls.stk.getLastD []).getD 1 ""] } else { ls with stk := ls.stk.dropLast ++ [[("mend" : Str)]], tj := ls.tj ++ [(ls.stk.getLastD []).getD 1 ""] }) else { ls with stk := ls.stk.dropLast ++ [[("mend" : Str)]] }) := rfl
    rw [q, e1, ne, if_neg Bool.false_ne_true]
/-- where rows stand: in a definition of this sort, within dp blocks, in late rows at most if late, in the body of eaches that keep ks at most -/
structure Stands (sort : Str) (late : Bool) (ks : List Str) (dp : Nat) (stk : List (List Str)) : Prop where
  hd : (stk.headD []).getD 0 "" = sort
  len : stk.length = dp + 1
  late : stk.any (· == [("late" : Str)]) = true → late = true
  kept : ∀ w, stk.any (· == [("each" : Str), w, "kept"]) = true → w ∈ ks
theorem Stands.cons {sort : Str} {late : Bool} {ks : List Str} {dp : Nat} {stk : List (List Str)} (h : Stands sort late ks dp stk) : ∃ x s, stk = x :: s ∧ x.getD 0 "" = sort := by
  cases e : stk with
  | nil => have := h.len; rw [e] at this; cases this
  | cons x s => exact ⟨x, s, rfl, by have := h.hd; rw [e] at this; exact this⟩
theorem Stands.push {sort : Str} {late late' : Bool} {ks ks' : List Str} {dp : Nat} {stk : List (List Str)} {f : List Str} (h : Stands sort late ks dp stk) (hl : late = true → late' = true) (hf : f = [("late" : Str)] → late' = true)
    (hk : ∀ z ∈ ks, z ∈ ks') (hw : ∀ w, f = [("each" : Str), w, "kept"] → w ∈ ks') : Stands sort late' ks' (dp + 1) (stk ++ [f]) := by
  obtain ⟨x, s, e, hx⟩ := h.cons
  refine ⟨by rw [e]; exact hx, by rw [List.length_append, h.len]; rfl, fun q => ?_, fun w q => ?_⟩
  · rw [List.any_append, Bool.or_eq_true] at q
    rcases q with q | q
    · exact hl (h.late q)
    · refine hf ?_
      have : (f == [("late" : Str)]) = true := by simpa using q
      exact eq_of_beq this
  · rw [List.any_append, Bool.or_eq_true] at q
    rcases q with q | q
    · exact hk w (h.kept w q)
    · refine hw w ?_
      have : (f == [("each" : Str), w, "kept"]) = true := by simpa using q
      exact eq_of_beq this
/-- rows that may stand so, whatever the rest -/
def Good (sort : Str) (late : Bool) (ks : List Str) (dp : Nat) (kn jn : List Str) (zs : List Str) : Prop :=
  ∀ ls : LSt, Stands sort late ks dp ls.stk → (∀ z ∈ kn, z ∈ ls.tw) → ls.dp ≤ 6 → ∃ ls', Thru ls ls' zs ∧ ls'.stk = ls.stk ∧ ls'.tw = ls.tw ∧ ls'.tj = ls.tj ∧ ls'.dp ≤ 6 ∧ ∀ z ∈ ls'.bg, z ∈ ls.bg ∨ z ∈ jn
section
variable {sort : Str} {late : Bool} {ks : List Str} {dp : Nat} {kn jn : List Str}
theorem Good.nil : Good sort late ks dp kn jn [] := fun ls _ _ d => ⟨ls, Thru.nil ls, rfl, rfl, rfl, d, fun _ h => .inl h⟩
theorem Good.app {a b : List Str} (x : Good sort late ks dp kn jn a) (y : Good sort late ks dp kn jn b) : Good sort late ks dp kn jn (a ++ b) := fun ls h hk d => by
  obtain ⟨l1, t1, s1, w1, j1, d1, b1⟩ := x ls h hk d
  obtain ⟨l2, t2, s2, w2, j2, d2, b2⟩ := y l1 (by rw [s1]; exact h) (by rw [w1]; exact hk) d1
  refine ⟨l2, t1.app t2, s2.trans s1, w2.trans w1, j2.trans j1, d2, fun z hz => ?_⟩
  rcases b2 z hz with q | q
  · exact b1 z q
  · exact .inr q
/-- a row that changes nothing of the law's state -/
theorem Good.stay {r : Str} {ps : List Str} (e : Txt.split r " " = ps) (hb : ∀ x s tw tj, Stands sort late ks dp (x :: s) → lBad (x :: s) tw tj ps = false) (hs : ∀ ls, lStep ls ps = ls) : Good sort late ks dp kn jn [r] := fun ls h hk d => by
  obtain ⟨x, s, e1, _⟩ := h.cons
  exact ⟨ls, Thru.one e (by rw [e1]; exact hb x s _ _ (by rw [← e1]; exact h)) (hs ls), rfl, rfl, rfl, d, fun _ q => .inl q⟩
theorem good_pause : Good sort late ks dp kn jn ["pause"] := Good.stay (split_one (noBl_of (by decide +kernel))) (fun x s tw tj _ => by rw [bad_pause]; rfl) fun ls => rfl
theorem good_give (hs : sort = "walk") (hl : late = false) : Good sort late ks dp kn jn ["give"] := Good.stay (split_one (noBl_of (by decide +kernel))) (fun x s tw tj h => by
    rw [bad_give]
    have h1 : x.getD 0 "" = "walk" := h.hd.trans hs
    have h2 : (x :: s).any (· == [("late" : Str)]) = false := by
      cases q : (x :: s).any (· == [("late" : Str)]) with
      | false => rfl
      | true => have := h.late q; rw [hl] at this; cases this
    rw [h2, decide_eq_true h1]
    rfl) fun ls => rfl
theorem good_word {w z : Str} (hw : w = "say" ∨ w = "wait" ∨ w = "open" ∨ w = "fail") (hz : isName z = true) : Good sort late ks dp kn jn [w ++ " " ++ z] := by
  have nz := name_noBl hz
  rcases hw with rfl | rfl | rfl | rfl
  · exact Good.stay (split_two (noBl_of (by decide +kernel)) nz) (fun x s tw tj _ => by rw [bad_sayW]; show (false || !isName z) = false; rw [hz]; rfl) fun ls => rfl
  · exact Good.stay (split_two (noBl_of (by decide +kernel)) nz) (fun x s tw tj _ => by rw [bad_waitW]; show (false || !isName z) = false; rw [hz]; rfl) fun ls => rfl
  · exact Good.stay (split_two (noBl_of (by decide +kernel)) nz) (fun x s tw tj _ => by rw [bad_openW]; show (false || !isName z) = false; rw [hz]; rfl) fun ls => rfl
  · exact Good.stay (split_two (noBl_of (by decide +kernel)) nz) (fun x s tw tj _ => by rw [bad_failW]; show (false || !isName z) = false; rw [hz]; rfl) fun ls => rfl
theorem begin_eq (z : Str) : ("begin " : Str) ++ z = "begin" ++ " " ++ z := by
  rw [show (("begin" : Str) ++ " " : Str) = "begin " by decide +kernel]
theorem good_begin {z : Str} (hz : isName z = true) (hj : z ∈ jn) : Good sort late ks dp kn jn [("begin " : Str) ++ z] := fun ls h hk d => by
  obtain ⟨x, s, e1, _⟩ := h.cons
  rw [begin_eq]
  refine ⟨{ ls with bg := ls.bg ++ [z] }, Thru.one (split_two (noBl_of (by decide +kernel)) (name_noBl hz)) (by rw [e1, bad_beginW]; show (false || !isName z) = false; rw [hz]; rfl) rfl, rfl, rfl, rfl, d, fun y hy => ?_⟩
  rcases List.mem_append.mp hy with q | q
  · exact .inl q
  · rw [List.mem_singleton.mp q]; exact .inr hj
theorem bad_end1 {x : List Str} {s : List (List Str)} {tw tj : List Str} (h : lTop (x :: s) ≠ "guard") : lBad (x :: s) tw tj [("end" : Str)] = false := by
  show (decide (lTop (x :: s) = "guard") == true) = false
  rw [decide_eq_false h]
  rfl
theorem bad_mark1 {x : List Str} {s : List (List Str)} {tw tj : List Str} {w : Str} (hw : w = "late" ∨ w = "mend") (h : lTop (x :: s) = "guard") : lBad (x :: s) tw tj [w] = false := by
  rcases hw with rfl | rfl
  · show (decide (lTop (x :: s) = "guard") == false) = false
    rw [decide_eq_true h]
    rfl
  · show (decide (lTop (x :: s) = "guard") == false) = false
    rw [decide_eq_true h]
    rfl
theorem lTop_app (s : List (List Str)) (f : List Str) : lTop (s ++ [f]) = f.getD 0 "" := by
  unfold lTop
  rw [List.getLast?_concat]
/-- "end" of a block that is none of a guard's guarded rows -/
theorem thru_end {ls : LSt} {s : List (List Str)} {f : List Str} (e : ls.stk = s ++ [f]) (hs : s ≠ []) (hf : f.getD 0 "" ≠ "guard") : Thru ls { ls with stk := s } ["end"] := by
  refine Thru.one (split_one (noBl_of (by decide +kernel))) ?_ (step_end e hs)
  cases s with
  | nil => exact absurd rfl hs
  | cons x r =>
    rw [e]
    exact bad_end1 (by
      have : lTop ((x :: r) ++ [f]) = f.getD 0 "" := lTop_app _ _
      show lTop (x :: r ++ [f]) ≠ _
      rw [this]
      exact hf)
/-- a block: its head, its rows, its end -/
theorem Good.block {h : Str} {ps : List Str} {zs : List Str} {late' : Bool} {ks' : List Str} (e : Txt.split h " " = ps) (hb : ∀ x s tw tj, Stands sort late ks dp (x :: s) → (∀ z ∈ kn, z ∈ tw) → lBad (x :: s) tw tj ps = false)
    (ho : ∀ ls, lStep ls ps = { ls with stk := ls.stk ++ [ps.take 3], dp := max ls.dp ls.stk.length }) (hp : ∀ stk, Stands sort late ks dp stk → Stands sort late' ks' (dp + 1) (stk ++ [ps.take 3])) (hg : (ps.take 3).getD 0 "" ≠ "guard") (hd : dp + 1 ≤ 6)
    (g : Good sort late' ks' (dp + 1) kn jn zs) : Good sort late ks dp kn jn (h :: (zs ++ [("end" : Str)])) := fun ls hS hk d => by
  obtain ⟨x, s, e1, _⟩ := hS.cons
  have t1 : Thru ls { ls with stk := ls.stk ++ [ps.take 3], dp := max ls.dp ls.stk.length } [h] := Thru.one e (by rw [e1]; exact hb x s _ _ (by rw [← e1]; exact hS) hk) (ho ls)
  have l1 := hS.len
  obtain ⟨l2, t2, s2, w2, j2, d2, b2⟩ := g { ls with stk := ls.stk ++ [ps.take 3], dp := max ls.dp ls.stk.length } (hp _ hS) hk (by show max ls.dp ls.stk.length ≤ 6; omega)
  have t3 := thru_end (ls := l2) (s := ls.stk) (f := ps.take 3) s2 (by rw [e1]; exact List.cons_ne_nil _ _) hg
  exact ⟨{ l2 with stk := ls.stk }, t1.app (t2.app t3), rfl, w2, j2, d2, b2⟩
theorem good_repeat {n : Str} {zs : List Str} (hn : isFigure n = true) (nb : NoBl n) (hd : dp + 1 ≤ 6) (g : Good sort late ks (dp + 1) kn jn zs) : Good sort late ks dp kn jn ((("repeat" : Str) ++ " " ++ n) :: (zs ++ [("end" : Str)])) :=
  Good.block (split_two (noBl_of (by decide +kernel)) nb) (fun x s tw tj _ _ => by rw [bad_repeat]; show (false || !isFigure n) = false; rw [hn]; rfl) (fun ls => rfl)
    (fun stk h => h.push id (fun q => by cases q) (fun z q => q) fun w q => by cases q) (show ("repeat" : Str) ≠ "guard" by decide +kernel) hd g
theorem bad_each {x : List Str} {s : List (List Str)} {tw tj fig : List Str} {w how : Str} (hw : w ∈ tw) (hn : w ≠ "") (hh : how = "closed" ∨ how = "dropped" ∨ how = "kept") (hf : fig = [] ∨ ∃ n, fig = [n] ∧ isFigure n = true ∧ n ≠ "")
    (hk : how = "kept" → x.getD 0 "" = "job" ∧ (x :: s).any (· == [("each" : Str), w, "kept"]) = false) : lBad (x :: s) tw tj (("each" : Str) :: w :: how :: fig) = false := by
  have ha : tw.any (· == w) = true := List.any_eq_true.mpr ⟨w, hw, beq_self_eq_true w⟩
  have hne : how ≠ "" := by rcases hh with rfl | rfl | rfl <;> decide +kernel
  have hhow : (["closed", "dropped", "kept"] : List Str).any (· == how) = true := by rcases hh with rfl | rfl | rfl <;> decide +kernel
  have hlast : (decide (how = "kept") && (!decide (x.getD 0 "" = "job") || (x :: s).any (· == [("each" : Str), w, "kept"]))) = false := by
    by_cases c : how = "kept"
    · obtain ⟨h1, h2⟩ := hk c
      rw [h2, decide_eq_true h1, decide_eq_true c]
      rfl
    · rw [decide_eq_false c]; rfl
  rcases hf with rfl | ⟨n, rfl, hn1, hn2⟩
  · show (if ("each" : Str) ≠ "each" ∨ ¬ ((3 : Nat) = 3 ∨ (3 : Nat) = 4) ∨ (tw.any (· == w)) = false ∨ how = "" then true
      else if (!((["closed", "dropped", "kept"] : List Str).any (· == how)) || ((3 : Nat) == 4 && !(("123456789" : Str).cps.toList.map fun c => (⟨#[c]⟩ : Str)).any (· == ""))) = true then true
      else decide (how = "kept") && (!decide (x.getD 0 "" = "job") || (x :: s).any (· == [("each" : Str), w, "kept"]))) = false
    rw [if_neg (fun q => q.elim (fun q => q rfl) fun q => q.elim (fun q => q (.inl rfl)) fun q => q.elim (fun q => by rw [ha] at q; cases q) hne), hhow, if_neg (by decide), hlast]
  · show (if ("each" : Str) ≠ "each" ∨ ¬ ((4 : Nat) = 3 ∨ (4 : Nat) = 4) ∨ (tw.any (· == w)) = false ∨ n = "" then true
      else if (!((["closed", "dropped", "kept"] : List Str).any (· == how)) || ((4 : Nat) == 4 && !(("123456789" : Str).cps.toList.map fun c => (⟨#[c]⟩ : Str)).any (· == n))) = true then true
      else decide (how = "kept") && (!decide (x.getD 0 "" = "job") || (x :: s).any (· == [("each" : Str), w, "kept"]))) = false
    rw [if_neg (fun q => q.elim (fun q => q rfl) fun q => q.elim (fun q => q (.inr rfl)) fun q => q.elim (fun q => by rw [ha] at q; cases q) hn2), hhow, figure_any, hn1, if_neg (by decide), hlast]
theorem isName_ne {z : Str} (h : isName z = true) : z ≠ "" := by rintro rfl; exact absurd h (by decide +kernel)
/-- an each; tm: its figure with a blank ahead, or nothing -/
theorem good_each {w how tm : Str} {zs ks' : List Str} (hw : w ∈ kn) (nw : isName w = true) (hh : how = "closed" ∨ how = "dropped" ∨ how = "kept") (ht : tm = "" ∨ tm = " 1" ∨ tm = " 2" ∨ tm = " 3")
    (hk : how = "kept" → sort = "job" ∧ w ∉ ks ∧ w ∈ ks') (hks : ∀ z ∈ ks, z ∈ ks') (hd : dp + 1 ≤ 6) (g : Good sort late ks' (dp + 1) kn jn zs) : Good sort late ks dp kn jn ((("each " : Str) ++ w ++ " " ++ how ++ tm) :: (zs ++ [("end" : Str)])) := by
  have nh : NoBl how := by rcases hh with rfl | rfl | rfl <;> exact noBl_of (by decide +kernel)
  have e0 : ("each " : Str) = "each" ++ " " := by decide +kernel
  obtain ⟨fig, e, hf⟩ : ∃ fig, Txt.split (("each " : Str) ++ w ++ " " ++ how ++ tm) " " = ("each" : Str) :: w :: how :: fig ∧ (fig = [] ∨ ∃ n, fig = [n] ∧ isFigure n = true ∧ n ≠ "") := by
    have four : ∀ n : Str, NoBl n → isFigure n = true → n ≠ "" → tm = (" " : Str) ++ n → ∃ fig, Txt.split (("each " : Str) ++ w ++ " " ++ how ++ tm) " " = ("each" : Str) :: w :: how :: fig ∧ (fig = [] ∨ ∃ n, fig = [n] ∧ isFigure n = true ∧ n ≠ "") := fun n nb hn hne ht =>
      ⟨[n], by rw [ht, e0]; exact split_four (noBl_of (by decide +kernel)) (name_noBl nw) nh nb, .inr ⟨n, rfl, hn, hne⟩⟩
    rcases ht with rfl | rfl | rfl | rfl
    · exact ⟨[], by rw [app_empty, e0]; exact split_three (noBl_of (by decide +kernel)) (name_noBl nw) nh, .inl rfl⟩
    · exact four "1" (noBl_of (by decide +kernel)) (by decide +kernel) (by decide +kernel) (by decide +kernel)
    · exact four "2" (noBl_of (by decide +kernel)) (by decide +kernel) (by decide +kernel) (by decide +kernel)
    · exact four "3" (noBl_of (by decide +kernel)) (by decide +kernel) (by decide +kernel) (by decide +kernel)
  refine Good.block e (fun x s tw tj h hkn => bad_each (hkn w hw) (isName_ne nw) hh hf fun q => ?_) (fun ls => rfl) (fun stk h => ?_) ?_ hd g
  · obtain ⟨h1, h2, _⟩ := hk q
    refine ⟨h.hd.trans h1, ?_⟩
    cases c : (x :: s).any (· == [("each" : Str), w, "kept"]) with
    | false => rfl
    | true => exact absurd (h.kept w c) h2
  · show Stands sort late ks' (dp + 1) (stk ++ [[("each" : Str), w, how]])
    refine h.push id (fun q => by cases q) hks fun y q => ?_
    injection q with _ q
    injection q with q1 q
    injection q with q2 _
    rw [← q1]
    exact (hk q2).2.2
  · show ("each" : Str) ≠ "guard"
    decide +kernel
theorem good_guard {zs1 zs2 : List Str} {mk : Str} {late' : Bool} (hm : mk = "late" ∨ mk = "mend") (hl : late = true → late' = true) (hl2 : mk = "late" → late' = true) (hd : dp + 1 ≤ 6) (g1 : Good sort late ks (dp + 1) kn jn zs1) (g2 : Good sort late' ks (dp + 1) kn jn zs2) :
    Good sort late ks dp kn jn ((("guard" : Str) :: zs1 ++ [mk] ++ zs2) ++ [("end" : Str)]) := fun ls hS hk d => by
  obtain ⟨x, s, e1, _⟩ := hS.cons
  have l1 := hS.len
  have nm : NoBl mk := by rcases hm with rfl | rfl <;> exact noBl_of (by decide +kernel)
  have t1 : Thru ls { ls with stk := ls.stk ++ [[("guard" : Str)]], dp := max ls.dp ls.stk.length } ["guard"] := Thru.one (split_one (noBl_of (by decide +kernel))) (by rw [e1, bad_guard]; rfl) rfl
  obtain ⟨l2, t2, s2, w2, j2, d2, b2⟩ := g1 { ls with stk := ls.stk ++ [[("guard" : Str)]], dp := max ls.dp ls.stk.length } (hS.push id (fun q => by injection q with q; exact absurd q (by decide +kernel)) (fun z q => q) fun w q => by cases q) hk (by show max ls.dp ls.stk.length ≤ 6; omega)
  have s2 : l2.stk = ls.stk ++ [[("guard" : Str)]] := s2
  have t3 : Thru l2 { l2 with stk := ls.stk ++ [[mk]] } [mk] := by
    refine Thru.one (split_one nm) ?_ (step_mark s2 hm)
    rw [s2, e1]
    exact bad_mark1 hm (lTop_app (x :: s) _)
  obtain ⟨l4, t4, s4, w4, j4, d4, b4⟩ := g2 { l2 with stk := ls.stk ++ [[mk]] } (hS.push hl (fun q => by injection q with q; exact hl2 q) (fun z q => q) fun w q => by cases q) (by rw [w2]; exact hk) d2
  have t5 := thru_end (ls := l4) (s := ls.stk) (f := [mk]) s4 (by rw [e1]; exact List.cons_ne_nil _ _) (by
    show mk ≠ "guard"
    rcases hm with rfl | rfl <;> decide +kernel)
  refine ⟨{ l4 with stk := ls.stk }, (((t1.app t2).app t3).app t4).app t5, rfl, w4.trans w2, j4.trans j2, d4, fun z hz => ?_⟩
  rcases b4 z hz with q | q
  · exact b2 z q
  · exact .inr q
end
end Ly
end
section
set_option Elab.async false
set_option linter.all false
set_option maxRecDepth 100000
/-! A definition; a whole program of definitions. -/
namespace Ly
open PySem PySem.Spec PyProof.Rows L2
theorem stands_def {z nm : Str} (hz : z = "job" ∨ z = "walk") : Stands z false [] 0 [[z, nm]] where
  hd := rfl
  len := rfl
  late := fun q => by
    have : ([z, nm] == [("late" : Str)]) = true := by simpa using q
    cases (eq_of_beq this)
  kept := fun w q => by
    have : ([z, nm] == [("each" : Str), w, "kept"]) = true := by simpa using q
    cases (eq_of_beq this)
theorem bad_def {z nm : Str} {tw tj : List Str} (hz : z = "job" ∨ z = "walk") (hn : isName nm = true) (hnot : nm ∉ (if z = "walk" then tw else tj)) : lBad [] tw tj [z, nm] = false := by
  have ha : (if z = "walk" then tw else tj).any (· == nm) = false := by
    cases q : (if z = "walk" then tw else tj).any (· == nm) with
    | false => rfl
    | true =>
      obtain ⟨y, hy, e⟩ := List.any_eq_true.mp q
      exact absurd ((eq_of_beq e) ▸ hy) hnot
  have hc : z = "walk" ∨ z = "job" := hz.symm
  show (if z = "walk" ∨ z = "job" then (false || (false || (!isName nm || (if z = "walk" then tw else tj).any (· == nm)))) else _) = false
  rw [if_pos hc, ha, hn]
  rfl
theorem step_def {ls : LSt} {z nm : Str} (hz : z = "job" ∨ z = "walk") : lStep ls [z, nm] = { ls with stk := ls.stk ++ [[z, nm]], dp := max ls.dp ls.stk.length } := by
  rcases hz with rfl | rfl
  · rfl
  · rfl
theorem def_thru {ls : LSt} {z nm : Str} {rs kn jn : List Str} (hz : z = "job" ∨ z = "walk") (e : ls.stk = []) (hn : isName nm = true) (hnot : nm ∉ (if z = "walk" then ls.tw else ls.tj)) (hk : ∀ y ∈ kn, y ∈ ls.tw) (hd : ls.dp ≤ 6) (g : Good z false [] 0 kn jn rs) :
    ∃ ls', Thru ls ls' ((z ++ " " ++ nm) :: rs ++ [("end" : Str)]) ∧ ls'.stk = [] ∧ ls'.dp ≤ 6 ∧ (z = "walk" → ls'.tw = ls.tw ++ [nm] ∧ ls'.tj = ls.tj) ∧ (z = "job" → ls'.tj = ls.tj ++ [nm] ∧ ls'.tw = ls.tw) ∧ ∀ y ∈ ls'.bg, y ∈ ls.bg ∨ y ∈ jn := by
  have nz : NoBl z := by rcases hz with rfl | rfl <;> exact noBl_of (by decide +kernel)
  have t1 : Thru ls { ls with stk := ls.stk ++ [[z, nm]], dp := max ls.dp ls.stk.length } [z ++ " " ++ nm] := Thru.one (split_two nz (name_noBl hn)) (by rw [e]; exact bad_def hz hn hnot) (step_def hz)
  obtain ⟨l2, t2, s2, w2, j2, d2, b2⟩ := g { ls with stk := ls.stk ++ [[z, nm]], dp := max ls.dp ls.stk.length } (by show Stands z false [] 0 (ls.stk ++ [[z, nm]]); rw [e]; exact stands_def hz) hk (by show max ls.dp ls.stk.length ≤ 6; rw [e]; simpa using hd)
  have s2 : l2.stk = [[z, nm]] := by rw [s2]; show ls.stk ++ [[z, nm]] = _; rw [e]; rfl
  have hg : z ≠ "guard" := by rcases hz with rfl | rfl <;> decide +kernel
  have t3 : Thru l2 (if z = "walk" then { l2 with stk := [], tw := l2.tw ++ [nm] } else { l2 with stk := [], tj := l2.tj ++ [nm] }) ["end"] := Thru.one (split_one (noBl_of (by decide +kernel))) (by rw [s2]; exact bad_end1 hg) (step_last s2)
  refine ⟨_, (t1.app t2).app t3, ?_, ?_, fun q => ?_, fun q => ?_, ?_⟩
  · split <;> rfl
  · split <;> exact d2
  · rw [if_pos q]
    exact ⟨congrArg (· ++ [nm]) w2, j2⟩
  · rw [if_neg (by rw [q]; decide +kernel)]
    exact ⟨congrArg (· ++ [nm]) j2, w2⟩
  · intro y hy
    refine b2 y ?_
    revert hy
    split <;> exact id
/-- the reader's state behind the definitions so far: js, ws are still to come -/
def RI (j0 w0 jn js ws kn rows : List Str) : Prop := ∃ ls, Thru lStart ls rows ∧ ls.stk = [] ∧ ls.tw = kn ∧ js ++ ls.tj.reverse = j0 ∧ ws ++ kn.reverse = w0 ∧ ls.dp ≤ 6 ∧ ∀ z ∈ ls.bg, z ∈ jn
theorem RI.start {j0 w0 jn : List Str} : RI j0 w0 jn j0 w0 [] [] := ⟨lStart, Thru.nil _, rfl, rfl, List.append_nil _, List.append_nil _, Nat.zero_le _, fun z h => by cases h⟩
theorem RI.job {j0 w0 jn js ws kn rows rs : List Str} {nm : Str} (R : RI j0 w0 jn (js ++ [nm]) ws kn rows) (nd : j0.Nodup) (hn : isName nm = true) (g : Good "job" false [] 0 kn jn rs) : RI j0 w0 jn js ws kn (rows ++ ((("job" : Str) ++ " " ++ nm) :: rs ++ [("end" : Str)])) := by
  obtain ⟨ls, t, s, w, j, q, d, b⟩ := R
  have hnot : nm ∉ ls.tj := fun h => by
    rw [← j, List.append_assoc, List.nodup_append] at nd
    have := (List.nodup_cons.mp nd.2.1).1
    exact this (List.mem_reverse.mpr h)
  obtain ⟨l2, t2, s2, d2, _, f2, b2⟩ := def_thru (ls := ls) (.inl rfl) s hn (by rw [if_neg (by decide +kernel)]; exact hnot) (by rw [w]; exact fun y h => h) d g
  obtain ⟨e1, e2⟩ := f2 rfl
  refine ⟨l2, t.app t2, s2, e2.trans w, ?_, q, d2, fun z hz => (b2 z hz).elim (b z) id⟩
  rw [e1, List.reverse_append, ← j, List.append_assoc]
  rfl
theorem RI.walk {j0 w0 jn js ws kn rows rs : List Str} {nm : Str} (R : RI j0 w0 jn js (ws ++ [nm]) kn rows) (nd : w0.Nodup) (hn : isName nm = true) (g : Good "walk" false [] 0 kn jn rs) : RI j0 w0 jn js ws (kn ++ [nm]) (rows ++ ((("walk" : Str) ++ " " ++ nm) :: rs ++ [("end" : Str)])) := by
  obtain ⟨ls, t, s, w, j, q, d, b⟩ := R
  have hnot : nm ∉ ls.tw := fun h => by
    rw [← q, List.append_assoc, List.nodup_append] at nd
    have := (List.nodup_cons.mp nd.2.1).1
    exact this (List.mem_reverse.mpr (by rw [← w]; exact h))
  obtain ⟨l2, t2, s2, d2, f2, _, b2⟩ := def_thru (ls := ls) (.inr rfl) s hn (by rw [if_pos rfl]; exact hnot) (by rw [w]; exact fun y h => h) d g
  obtain ⟨e1, e2⟩ := f2 rfl
  refine ⟨l2, t.app t2, s2, by rw [e1, w], by rw [e2]; exact j, ?_, d2, fun z hz => (b2 z hz).elim (b z) id⟩
  rw [List.reverse_append, ← q, List.append_assoc]
  rfl
/-- the law's reader takes it -/
def Reads (rows : List Str) : Prop := lDue rows = (("many" : Str), V.str "none")
theorem reads_of {rows : List Str} {ls : LSt} (t : Thru lStart ls rows) (s : ls.stk = []) (hm : ("main" : Str) ∈ ls.tj) (hb : ∀ z ∈ ls.bg, z ∈ ls.tj) (h1 : rows.length ≤ 100) (h2 : ls.tj.length ≤ 6) (h3 : ls.tw.length ≤ 6) (h4 : ls.dp ≤ 6) : Reads rows := by
  have e : ((("main" : Str) :: ls.bg).find? fun z => !ls.tj.any (· == z)) = none := by
    rw [List.find?_eq_none]
    intro z hz
    have : z ∈ ls.tj := (List.mem_cons.mp hz).elim (fun q => by rw [q]; exact hm) (hb z)
    have : ls.tj.any (· == z) = true := List.any_eq_true.mpr ⟨z, this, beq_self_eq_true z⟩
    rw [this]
    decide
  unfold Reads lDue
  rw [t 0]
  dsimp only
  rw [s, e]
  unfold lSizes
  rw [if_neg (show ¬ ([] : List (List Str)).isEmpty = false by decide), if_neg (by omega), if_neg (by omega), if_neg (by omega), if_neg (by omega)]
theorem RI.reads {j0 w0 jn kn rows : List Str} (R : RI j0 w0 jn [] [] kn rows) (hm : ("main" : Str) ∈ j0) (hb : ∀ z ∈ jn, z ∈ j0) (h1 : rows.length ≤ 100) (h2 : j0.length ≤ 6) (h3 : w0.length ≤ 6) : Reads rows := by
  obtain ⟨ls, t, s, w, j, q, d, b⟩ := R
  have j : ls.tj.reverse = j0 := j
  have q : kn.reverse = w0 := q
  have m : ∀ z, z ∈ j0 → z ∈ ls.tj := fun z h => by rw [← j] at h; exact List.mem_reverse.mp h
  refine reads_of t s (m _ hm) (fun z hz => m z (hb z (b z hz))) h1 ?_ ?_ (by omega)
  · rw [← List.length_reverse, j]; exact h2
  · rw [w, ← List.length_reverse, q]; exact h3
end Ly
end
section
set_option Elab.async false
set_option linter.all false
set_option maxRecDepth 100000
/-! Unlike names. -/
namespace Ly
open PySem PySem.Spec PyProof.Rows L2
theorem cut_pre (zs : List Str) (m : Nat) : cutV (zs.map V.str) none (some (m : Int)) = (zs.take m).map V.str := by
  unfold cutV
  rw [HT.sIx_nat, HT.sIx_none, List.length_map, List.drop_zero, ← List.map_take]
  by_cases h : m ≤ zs.length
  · rw [Nat.min_eq_left h, Nat.sub_zero]
  · rw [Nat.min_eq_right (by omega), Nat.sub_zero, List.take_of_length_le (Nat.le_refl _), List.take_of_length_le (by omega)]
theorem cut_suf (zs : List Str) (m : Nat) : cutV (zs.map V.str) (some (m : Int)) none = (zs.drop m).map V.str := by
  unfold cutV
  rw [HT.sIx_nat, HT.sIx_none, List.length_map, ← List.map_drop, ← List.map_take]
  by_cases h : m ≤ zs.length
  · rw [Nat.min_eq_left h, List.take_of_length_le (by rw [List.length_drop]; exact Nat.le_refl _)]
  · rw [Nat.min_eq_right (by omega), List.drop_eq_nil_of_le (Nat.le_refl _), List.drop_eq_nil_of_le (by omega), List.take_nil]
theorem cut_mid (zs : List Str) (i j : Nat) : cutV (zs.map V.str) (some (i : Int)) (some (j : Int)) = ((zs.drop i).take (j - i)).map V.str := by
  unfold cutV
  rw [HT.sIx_nat, HT.sIx_nat, List.length_map, ← List.map_drop, ← List.map_take]
  by_cases h : i ≤ zs.length
  · rw [Nat.min_eq_left h]
    by_cases h2 : j ≤ zs.length
    · rw [Nat.min_eq_left h2]
    · rw [Nat.min_eq_right (by omega), List.take_of_length_le (by rw [List.length_drop]; exact Nat.le_refl _), List.take_of_length_le (by rw [List.length_drop]; omega)]
  · rw [show min i zs.length = zs.length from Nat.min_eq_right (by omega), List.drop_eq_nil_of_le (Nat.le_refl _), List.drop_eq_nil_of_le (by omega), List.take_nil, List.take_nil]
def abcS : Str := "abcdefghijklmnopqrstuvwxyz"
theorem abc_at {i : Nat} (h : i < 26) : ∃ c, abcS.cps.toList[i]? = some c ∧ Sg c := by
  have q : ∀ j : Fin 26, (match abcS.cps.toList[j.1]? with | some c => decide (c < 0x110000) && decide (c ≠ 10) | none => false) = true := by decide +kernel
  have := q ⟨i, h⟩
  cases e : abcS.cps.toList[i]? with
  | none => rw [e] at this; cases this
  | some c =>
    rw [e] at this
    obtain ⟨x, y⟩ := Bool.and_eq_true_iff.mp this
    exact ⟨c, rfl, of_decide_eq_true x, of_decide_eq_true y⟩
theorem sign_rw {c : Nat} (h : Sg c) : Rw 1 ⟨#[c]⟩ := ⟨Nat.le_refl 1, fun d hd => by
  have : d ∈ [c] := hd
  rw [List.mem_singleton.mp this]
  exact h⟩
theorem sign_small {c : Nat} (h : signOk c = true) : 97 ≤ c ∧ c ≤ 122 := by
  obtain ⟨h1, h2⟩ := Bool.and_eq_true_iff.mp h
  constructor
  · have q : ¬ ([c] < [97]) := by simpa [leS, show (Str.ofString "a").cps.toList = [97] by kernel_rfl] using h1
    rw [List.cons_lt_cons_iff] at q
    omega
  · have q : ¬ ([122] < [c]) := by simpa [leS, show (Str.ofString "z").cps.toList = [122] by kernel_rfl] using h2
    rw [List.cons_lt_cons_iff] at q
    omega
theorem name_rw {z : Str} (h : isName z = true) : Rw 8 z := by
  unfold isName at h
  rw [Bool.and_eq_true, Bool.and_eq_true, Bool.and_eq_true] at h
  obtain ⟨⟨⟨_, h2⟩, _⟩, h4⟩ := h
  refine ⟨of_decide_eq_true h2, fun c hc => ?_⟩
  obtain ⟨a, b⟩ := sign_small (List.all_eq_true.mp h4 c hc)
  exact ⟨by omega, by omega⟩
/-- the signs of a to z, counted from r in steps of 7 -/
def nmA (r k : Nat) : Str := ⟨#[97 + (r + 7 * k) % 26]⟩
def listA (r : Nat) : List Str := (List.range 8).map (nmA r)
def nmB (r k : Nat) : Str := repS ⟨#[97 + r]⟩ (k + 1)
def listB (r : Nat) : List Str := (List.range 8).map (nmB r)
def listC (r : Nat) : List Str := (listA r).map fun z => ("kqzjxvw" : Str) ++ z
def listD : List Str := ["main", "ended", "says", "gates", "keep", "jobs", "walks", "notes"]
def okN (l : List Str) : Bool := l.all isName && (decide l.Nodup && (l.length == 8))
theorem okN_A : ∀ r : Fin 26, okN (listA r.1) = true := by decide +kernel
theorem okN_B : ∀ r : Fin 26, okN (listB r.1) = true := by decide +kernel
theorem okN_C : ∀ r : Fin 26, okN (listC r.1) = true := by decide +kernel
theorem okN_D : okN listD = true := by decide +kernel
theorem abc_is {i : Nat} (h : i < 26) : abcS.cps.toList[i]? = some (97 + i) := by
  have q : ∀ j : Fin 26, abcS.cps.toList[j.1]? = some (97 + j.1) := by decide +kernel
  exact q ⟨i, h⟩
theorem nm_ix (r i : Nat) : Int.fmod ((r : Int) + 7 * (0 + (i : Int))) 26 = (((r + 7 * i) % 26 : Nat) : Int) := by
  rw [Int.fmod_eq_emod_of_nonneg _ (by decide)]
  omega
section
variable {P : Program} {w : World} {K : PySem.W.Frag} {mg : Str → Option Value} {base : Heap}
/-- a list of m names stands at l -/
structure Nl (H : Hp) (l : Addr) (m : Nat) (zs : List Str) : Prop where
  at_ : H l = some (.lst (zs.map V.str))
  nm : ∀ z ∈ zs, isName z = true
  nd : zs.Nodup
  len : zs.length = m
theorem Nl.rw {H : Hp} {l : Addr} {m : Nat} {zs : List Str} (N : Nl H l m zs) : ∀ z ∈ zs, Rw 8 z := fun z h => name_rw (N.nm z h)
def spName8 : Sp := fun vs H Q _ => ∃ (b : Addr) (m : Nat), vs = [.ref b, .int (m : Int)] ∧ BoxAt H b ∧ m ≤ 8 ∧ ∀ (H' : Hp) (l : Addr) (zs : List Str), BKp b H H' → H l = none → Nl H' l m zs → Q (.ref l) H'
def nameN : List Str := ["_law_box_here", "_law_many", "_law_letters", "_law_first", "_law_form", "_law_found", "_law_k", "_law_letter"]
theorem okN_at {H : Hp} {l : Addr} {zs : List Str} (h : okN zs = true) (e : H l = some (.lst (zs.map V.str))) : Nl H l 8 zs := by
  obtain ⟨h1, h2⟩ := Bool.and_eq_true_iff.mp h
  obtain ⟨h3, h4⟩ := Bool.and_eq_true_iff.mp h2
  exact ⟨e, fun z hz => List.all_eq_true.mp h1 z hz, of_decide_eq_true h3, eq_of_beq h4⟩
theorem sc_names8 : FnScope nameN ["_law_box_here", "_law_many"] (defScope t_law_names) := ⟨rfl, rfl, rfl, by decide +kernel, rfl, by decide +kernel, by decide +kernel⟩
theorem ok_names8 {f ft fm : Addr} {fd dt dm : FuncData} (F : Fun K "_law_names" "_law_names" t_law_names f fd) (B : Bt mg) (GT : FnOk P w K mg base CX0 1 ft dt ["_law_box_here", "_law_many"] spDraw) (aT : mg "_law_take" = some (.ref ft)) (kT : PySem.W.keepIn K (.ref ft) = true) (bT : Binds K dt ["_law_box_here", "_law_many"] [])
    (GM : FnOk P w K mg base CX0 2 fm dm ["_law_box_here", "_law_items"] spMix) (aM : mg "_law_mixed" = some (.ref fm)) (kM : PySem.W.keepIn K (.ref fm) = true) (bM : Binds K dm ["_law_box_here", "_law_items"] []) :
    FnOk P w K mg base CX0 3 f fd ["_law_box_here", "_law_many"] spName8 := by
  refine F.ok sc_names8 (fun vs H Q E h => ?_) (fun cdv A outer s H vs Q E hr h => ?_)
  · obtain ⟨b, m, rfl, _⟩ := h
    rfl
  · obtain ⟨b, m, rfl, hb, hm, k⟩ := h
    have nod := sc_names8.nd
    have hr1 : Room 1 (A.deeper (envOfC "_law_names" (defScope t_law_names) s.heap.objs.size f cdv)) := hr.mono (by decide)
    refine ⟨_, pss_cons (ps_asg (pe_tup (pa_cons pe_str (pa_cons (pe_call GT hr1 rfl aT kT bT .nil pass0 (pa_cons (pv 0) (pa_cons pe_int pa_nil))) (pa_cons (pe_call GT hr1 rfl aT kT bT .nil pass0 (pa_cons (pv 0) (pa_cons pe_int pa_nil))) pa_nil))))
        (pg_tup rfl (pgs_cons (pg_name (i := 2) nod rfl (Or.inr rfl)) (pgs_cons (pg_name (i := 3) nod rfl (Or.inr rfl)) (pgs_cons (pg_name (i := 4) nod rfl (Or.inl rfl)) pgs_nil)))) rfl)
      (pss_cons (ps_setLc (i := 5) (own := [("_law_k", 6)]) (g := gName 6) (tt := tYes) (by rfl) nod rfl rfl (sw_true rfl rfl rfl (by decide +kernel)) (pi_range1 rfl B.range (pa_cons pe_int pa_nil)) (blkOk_by (own := [("_law_k", 6)]) (N := nameN) (sc := defScope t_law_names) (by decide +kernel)) (fun _ _ _ _ _ => pg_name (i := 6) nod rfl (Or.inl rfl)) (fun _ _ _ _ _ => pts_nil)
          (fun _ _ _ _ _ => pe_ix ix_str (pv 2) (pe_op op_modN (pe_callTy call_int1 rfl B.int (by decide +kernel) (pa_cons (pe_op op_add (pv 3) (pe_op op_mul pe_int (pv 6))) pa_nil)) pe_int) (fun _ _ => rfl)))
      (pss_cons (ps_if (pt_cmpR op_eq (pv 4) pe_int (nomark _)) (pss_one (ps_setLc (i := 5) (own := [("_law_k", 6)]) (g := gName 6) (tt := tYes) (by rfl) nod rfl rfl (sw_true rfl rfl rfl (by decide +kernel)) (pi_range1 rfl B.range (pa_cons pe_int pa_nil)) (blkOk_by (own := [("_law_k", 6)]) (N := nameN) (sc := defScope t_law_names) (by decide +kernel)) (fun _ _ _ _ _ => pg_name (i := 6) nod rfl (Or.inl rfl)) (fun _ _ _ _ _ => pts_nil)
          (fun _ _ _ _ _ => pe_op op_mul_str (pe_ix ix_str (pv 2) (pv 3) (fun _ _ => rfl)) (pe_op op_add (pv 6) pe_int)))) pss_nil)
      (pss_cons (ps_if (pt_cmpR op_eq (pv 4) pe_int (nomark _)) (pss_one (ps_setLc (i := 5) (own := [("_law_letter", 7)]) (g := gName 7) (tt := tYes) (by rfl) nod rfl rfl (sw_true rfl rfl rfl (by decide +kernel)) (pi_list (pv 5)) (blkOk_by (own := [("_law_letter", 7)]) (N := nameN) (sc := defScope t_law_names) (by decide +kernel)) (fun _ _ _ _ _ => pg_name (i := 7) nod rfl (Or.inl rfl)) (fun _ _ _ _ _ => pts_nil)
          (fun _ _ _ _ _ => pe_op op_add_str pe_str (pv 7)))) pss_nil)
      (pss_cons (ps_if (pt_cmpR op_eq (pv 4) pe_int (nomark _)) (pss_one (ps_set (i := 5) nod rfl (Or.inl rfl) (pe_split pe_str pe_str))) pss_nil)
      (pss_one (ps_ret (pe_slice sl_list (pe_call GM hr rfl aM kM bM .nil pass0 (pa_cons (pv 0) (pa_cons (pv 5) pa_nil))) po_none (po_some (pv 1))))))))), ?_⟩
    -- the letters, two draws
    refine seq_cut (t := tAsg _ _) (fun σ' H' => ∃ (r1 r2 : Nat), σ' = [some (.ref b), some (.int (m : Int)), some (.str abcS), some (.int (r1 : Int)), some (.int (r2 : Int)), none, none, none] ∧ BKp b H H' ∧ r1 < 26) (fun N hN => ?_) ?_
    · refine ⟨_, rfl, b, _, rfl, hb, by decide, by decide, fun H1 r1 k1 h1 => ?_⟩
      refine ⟨_, rfl, b, _, rfl, k1.box, by decide, by decide, fun H2 r2 k2 h2 => ⟨by show 3 ≤ sizeLine; decide, fun t nt => ?_⟩⟩
      refine ⟨t, _, rfl, SqT.of upd_same, rfl, _, _, rfl, _, _, rfl, _, _, rfl, ⟨rfl, hN _ _ ?_⟩⟩
      exact ⟨r1, r2, rfl, (k1.trans k2).same (same_new nt), by omega⟩
    rintro σ0 H1 ⟨r1, r2, rfl, k1, h26⟩
    -- eight letters
    refine seq_cut (t := tAsg _ _) (fun σ' H' => ∃ (l : Addr), σ' = [some (.ref b), some (.int (m : Int)), some (.str abcS), some (.int (r1 : Int)), some (.int (r2 : Int)), some (.ref l), none, none] ∧ BKp b H H' ∧ Nl H' l 8 (listA r1)) (fun N hN => ?_) ?_
    · refine ⟨8, rfl, by decide, by decide, fun D nD => lc_range (lo := 0) (n := 8) (fun i H' => H' = upd H1 D (.lst (((List.range i).map (nmA r1)).map V.str))) rfl ?_ ?_⟩
      · rintro i H2 hi rfl
        refine ⟨rfl, ?_⟩
        refine ⟨_, rfl, _, rfl, _, rfl, _, _, rfl, rfl, .inl ⟨by decide, by decide⟩, _, _, rfl, rfl, .inl ⟨_, rfl, _, _, rfl, rfl, (show (26 : Int) ≠ 0 by decide), ?_⟩⟩
        refine ⟨abcS, _, 97 + (r1 + 7 * i) % 26, rfl, rfl, by decide +kernel, ?_, _, upd_same, ?_, ?_⟩
        · show atI abcS.cps.toList (Int.fmod ((r1 : Int) + 7 * (0 + (i : Int))) 26) = some _
          rw [nm_ix]
          exact atI_nat (abc_is (Nat.mod_lt _ (by decide)))
        · rw [List.length_map, List.length_map, List.length_range, sizeLine_eq]; omega
        · rw [upd_upd, List.range_succ, List.map_append, List.map_append]; rfl
      · rintro H2 rfl
        refine nx_of (hN _ _ ⟨D, rfl, k1.same (same_new nD), okN_at (okN_A ⟨r1, h26⟩) upd_same⟩)
    rintro σ0 H2 ⟨l2, rfl, k2, N2⟩
    -- one letter repeated
    refine seq_cut (t := tIfS _ _ _) (fun σ' H' => ∃ (l : Addr) (zs : List Str), σ' = [some (.ref b), some (.int (m : Int)), some (.str abcS), some (.int (r1 : Int)), some (.int (r2 : Int)), some (.ref l), none, none] ∧ BKp b H H' ∧ Nl H' l 8 zs ∧ (r2 = 1 ∨ zs = listA r1)) (fun N hN => ?_) ?_
    · refine ⟨_, rfl, rfl, _, rfl, ?_⟩
      cases c : decide (V.int (r2 : Int) = V.int 1) with
      | false => exact iteF (nx_mk (hN _ _ ⟨l2, _, rfl, k2, N2, .inr rfl⟩))
      | true =>
        have e1 : r2 = 1 := by have := V.int.inj (of_decide_eq_true c); omega
        refine iteT ?_
        refine ⟨8, rfl, by decide, by decide, fun D nD => lc_range (lo := 0) (n := 8) (fun i H' => H' = upd H2 D (.lst (((List.range i).map (nmB r1)).map V.str))) rfl ?_ ?_⟩
        · rintro i H3 hi rfl
          refine ⟨rfl, ?_⟩
          refine ⟨_, rfl, _, rfl, abcS, _, 97 + r1, rfl, rfl, by decide +kernel, atI_nat (abc_is h26), _, rfl, _, _, rfl, rfl, ?_⟩
          refine ⟨_, i + 1, rfl, congrArg V.int (by show (0 : Int) + (i : Int) + 1 = ((i + 1 : Nat) : Int); omega), by omega, (show 1 ≤ 1000 by decide), _, upd_same, ?_, ?_⟩
          · rw [List.length_map, List.length_map, List.length_range, sizeLine_eq]; omega
          · rw [upd_upd, List.range_succ, List.map_append, List.map_append]; rfl
        · rintro H3 rfl
          refine nx_of (hN _ _ ⟨D, _, rfl, k2.same (same_new nD), okN_at (okN_B ⟨r1, h26⟩) upd_same, .inl e1⟩)
    rintro σ0 H3 ⟨l3, zs3, rfl, k3, N3, R3⟩
    -- long names
    refine seq_cut (t := tIfS _ _ _) (fun σ' H' => ∃ (l : Addr) (zs : List Str), σ' = [some (.ref b), some (.int (m : Int)), some (.str abcS), some (.int (r1 : Int)), some (.int (r2 : Int)), some (.ref l), none, none] ∧ BKp b H H' ∧ Nl H' l 8 zs) (fun N hN => ?_) ?_
    · refine ⟨_, rfl, rfl, _, rfl, ?_⟩
      cases c : decide (V.int (r2 : Int) = V.int 2) with
      | false => exact iteF (nx_mk (hN _ _ ⟨l3, zs3, rfl, k3, N3⟩))
      | true =>
        have e2 : r2 = 2 := by have := V.int.inj (of_decide_eq_true c); omega
        obtain rfl : zs3 = listA r1 := R3.resolve_left (by omega)
        refine iteT ?_
        refine ⟨_, rfl, l3, rfl, ⟨_, SqL.of N3.at_⟩, fun D nD => lc_list (K := K) (a := l3) (xs := (listA r1).map V.str) (fun i H' => H' = upd H3 D (.lst ((((listA r1).take i).map fun z => ("kqzjxvw" : Str) ++ z).map V.str))) rfl (fun i H' _ e => by
            subst e
            exact SqL.of (by rw [upd_ne (ne_of_none N3.at_ nD)]; exact N3.at_)) ?_ ?_⟩
        · rintro i x H4 hi rfl
          obtain ⟨y, hy, rfl⟩ : ∃ y, (listA r1)[i]? = some y ∧ x = V.str y := by
            rw [List.getElem?_map] at hi
            cases e : (listA r1)[i]? with
            | none => rw [e] at hi; cases hi
            | some y => rw [e] at hi; exact ⟨y, rfl, (Option.some.inj hi).symm⟩
          have ry := N3.rw y (List.mem_of_getElem? hy)
          have rp : Rw 7 "kqzjxvw" := rw_of (by decide +kernel)
          refine ⟨rfl, ?_⟩
          refine ⟨_, rfl, _, _, rfl, rfl, ?_, _, upd_same, ?_, ?_⟩
          · rw [sizeLine_eq]
            have := rp.len
            have := ry.len
            omega
          · rw [List.length_map, List.length_map, List.length_take, N3.len, sizeLine_eq]; omega
          · rw [upd_upd, List.take_add_one, hy, List.map_append, List.map_append]; rfl
        · rintro H4 rfl
          have e8 : (listA r1).take ((listA r1).map V.str).length = listA r1 := by rw [List.length_map, List.take_length]
          rw [e8] at *
          refine nx_of (hN _ _ ⟨D, listC r1, rfl, k3.same (same_new nD), okN_at (okN_C ⟨r1, h26⟩) upd_same⟩)
    rintro σ0 H4 ⟨l4, zs4, rfl, k4, N4⟩
    -- names like the language's words
    refine seq_cut (t := tIfS _ _ _) (fun σ' H' => ∃ (l : Addr) (zs : List Str), σ' = [some (.ref b), some (.int (m : Int)), some (.str abcS), some (.int (r1 : Int)), some (.int (r2 : Int)), some (.ref l), none, none] ∧ BKp b H H' ∧ Nl H' l 8 zs) (fun N hN => ?_) ?_
    · refine ⟨_, rfl, rfl, _, rfl, ?_⟩
      cases c : decide (V.int (r2 : Int) = V.int 3) with
      | false => exact iteF (nx_mk (hN _ _ ⟨l4, zs4, rfl, k4, N4⟩))
      | true =>
        refine iteT ⟨⟨_, rfl⟩, _, _, rfl, rfl, by decide +kernel, by decide +kernel, fun p np => nx_of (hN _ _ ?_)⟩
        have e : Txt.split "main ended says gates keep jobs walks notes" " " = listD := by decide +kernel
        rw [e]
        exact ⟨p, _, rfl, k4.same (same_new np), okN_at okN_D upd_same⟩
    rintro σ0 H5 ⟨l5, zs5, rfl, k5, N5⟩
    refine ⟨_, rfl, _, rfl, b, l5, zs5, rfl, k5.box, N5.at_, by rw [N5.len]; decide, fun z h => (N5.rw z h).pln, fun H6 l6 out k6 n6 h6 pm => ?_⟩
    refine ⟨_, rfl, _, rfl, l6, _, rfl, SqL.of h6, fun q nq => ?_⟩
    rw [cut_pre]
    have hlo : out.length = 8 := by rw [pm.length_eq, N5.len]
    refine k _ q (out.take m) ((k5.trans k6).same (same_new nq)) ?_ ⟨upd_same, fun z h => N5.nm z (pm.mem_iff.mp (List.mem_of_mem_take h)), (pm.nodup_iff.mpr N5.nd).sublist (List.take_sublist _ _), by rw [List.length_take]; omega⟩
    have kk := k5.trans k6
    have h3 : q ≠ b := (kk.box.ne nq).symm
    cases e : H q with
    | none => rfl
    | some o =>
      have := kk.keep q o h3 e
      rw [nq] at this
      cases this
end
end Ly
end
section
set_option Elab.async false
set_option linter.all false
set_option maxRecDepth 100000
/-! What a program is drawn of; rows, a row, a block, within one another. -/
namespace Ly
open PySem PySem.Spec PyProof.Rows L2
/-- the world: its lists, of what sort the definition is, how many rows are left -/
structure Wv where
  aj : Addr
  ak : Addr
  aw : Addr
  ag : Addr
  an : Addr
  sort : Str
  left : Nat
def wkv (W : Wv) : List (L2.Key × V) := [(.inr "jobs", .ref W.aj), (.inr "sort", .str W.sort), (.inr "left", .int (W.left : Int)), (.inr "deep", .int 4), (.inr "known", .ref W.ak), (.inr "walks", .ref W.aw), (.inr "gates", .ref W.ag), (.inr "notes", .ref W.an)]
structure Lsts where
  j : List Str
  k : List Str
  w : List Str
  g : List Str
  n : List Str
/-- names in a list that stands -/
structure Nm (H : Hp) (a : Addr) (zs : List Str) : Prop where
  at_ : H a = some (.lst (zs.map V.str))
  nm : ∀ z ∈ zs, isName z = true
  few : zs.length ≤ 20
theorem Nm.rw {H : Hp} {a : Addr} {zs : List Str} (N : Nm H a zs) : ∀ z ∈ zs, Rw 8 z := fun z h => name_rw (N.nm z h)
structure Gs (H : Hp) (b wd : Addr) (W : Wv) (L : Lsts) : Prop where
  box : BoxAt H b
  at_ : H wd = some (.dK (wkv W))
  j : Nm H W.aj L.j
  k : Nm H W.ak L.k
  w : Nm H W.aw L.w
  g : Nm H W.ag L.g
  n : Nm H W.an L.n
  j0 : 0 < L.j.length
  g0 : 0 < L.g.length
  n0 : 0 < L.n.length
theorem Gs.bw {H : Hp} {b wd : Addr} {W : Wv} {L : Lsts} (G : Gs H b wd W L) : wd ≠ b := by
  rintro rfl
  obtain ⟨c, s, n, e⟩ := G.box
  rw [G.at_] at e
  cases e
theorem Nm.ne {H : Hp} {a wd : Addr} {zs : List Str} {o : List (L2.Key × V)} (N : Nm H a zs) (h : H wd = some (.dK o)) : a ≠ wd := by
  rintro rfl
  rw [N.at_] at h
  cases h
theorem Nm.move {H H' : Hp} {a : Addr} {zs : List Str} (N : Nm H a zs) (h : H' a = some (.lst (zs.map V.str))) : Nm H' a zs := ⟨h, N.nm, N.few⟩
theorem Gs.same {H H' : Hp} {b wd : Addr} {W : Wv} {L : Lsts} (G : Gs H b wd W L) (s : Same H H') : Gs H' b wd W L :=
  ⟨G.box.same s, s _ _ G.at_, G.j.move (s _ _ G.j.at_), G.k.move (s _ _ G.k.at_), G.w.move (s _ _ G.w.at_), G.g.move (s _ _ G.g.at_), G.n.move (s _ _ G.n.at_), G.j0, G.g0, G.n0⟩
theorem Gs.kp {H H' : Hp} {b wd : Addr} {W : Wv} {L : Lsts} (G : Gs H b wd W L) (s : BKp b H H') : Gs H' b wd W L := by
  have mv : ∀ {a : Addr} {zs : List Str}, Nm H a zs → Nm H' a zs := fun N => N.move (s.keep _ _ (box_ne G.box N.at_) N.at_)
  exact ⟨s.box, s.keep _ _ G.bw G.at_, mv G.j, mv G.k, mv G.w, mv G.g, mv G.n, G.j0, G.g0, G.n0⟩
/-- all but the box and the world stays -/
def Kw (b wd : Addr) (H H' : Hp) : Prop := ∀ p o, p ≠ b → p ≠ wd → H p = some o → H' p = some o
theorem Kw.trans {b wd : Addr} {H H1 H2 : Hp} (x : Kw b wd H H1) (y : Kw b wd H1 H2) : Kw b wd H H2 := fun p o n1 n2 e => y p o n1 n2 (x p o n1 n2 e)
theorem Kw.of {b wd : Addr} {H H1 : Hp} (x : BKp b H H1) : Kw b wd H H1 := fun p o n1 _ e => x.keep p o n1 e
theorem Kw.sm {b wd : Addr} {H H1 : Hp} (x : Same H H1) : Kw b wd H H1 := fun p o _ _ e => x p o e
theorem Kw.refl {b wd : Addr} {H : Hp} : Kw b wd H H := fun _ _ _ _ e => e
theorem Kw.put {b wd : Addr} {H H1 : Hp} {o : HO} (x : Kw b wd H H1) : Kw b wd H (upd H1 wd o) := fun p u n1 n2 e => by rw [upd_ne n2]; exact x p u n1 n2 e
theorem Kw.new {b wd l : Addr} {H H1 : Hp} {o : HO} (x : Kw b wd H H1) (n : H l = none) : Kw b wd H (upd H1 l o) := fun p u n1 n2 e => by
  rw [upd_ne (ne_of_none e n)]
  exact x p u n1 n2 e
theorem Kw.free {b wd p : Addr} {H H1 : Hp} {W : Wv} {L : Lsts} (x : Kw b wd H H1) (G : Gs H1 b wd W L) (h : H1 p = none) : H p = none ∧ p ≠ b ∧ p ≠ wd := by
  have h1 : p ≠ b := (G.box.ne h).symm
  have h2 : p ≠ wd := (ne_of_none G.at_ h).symm
  refine ⟨?_, h1, h2⟩
  cases e : H p with
  | none => rfl
  | some o =>
    have := x p o h1 h2 e
    rw [h] at this
    cases this
/-- a list of texts stays where the box and the world change -/
theorem Kw.lst {b wd a : Addr} {H H1 : Hp} {W : Wv} {L : Lsts} {zs : List Str} (x : Kw b wd H H1) (G : Gs H b wd W L) (h : H a = some (.lst (zs.map V.str))) : H1 a = some (.lst (zs.map V.str)) :=
  x _ _ (box_ne G.box h) (by rintro rfl; rw [G.at_] at h; cases h) h
theorem get_left {H : Hp} {b wd : Addr} {W : Wv} {L : Lsts} (G : Gs H b wd W L) : DGet H wd (.str "left") (some (.int (W.left : Int))) := by
  have e : valV (wkv W) (Sum.inr "left" : L2.Key) = some (V.int (W.left : Int)) := by kernel_rfl
  rw [← e]
  exact DGet.k (k := Sum.inr "left") G.at_
theorem get_deep {H : Hp} {b wd : Addr} {W : Wv} {L : Lsts} (G : Gs H b wd W L) : DGet H wd (.str "deep") (some (.int 4)) := by
  have e : valV (wkv W) (Sum.inr "deep" : L2.Key) = some (V.int 4) := by kernel_rfl
  rw [← e]
  exact DGet.k (k := Sum.inr "deep") G.at_
theorem get_sort {H : Hp} {b wd : Addr} {W : Wv} {L : Lsts} (G : Gs H b wd W L) : DGet H wd (.str "sort") (some (.str W.sort)) := by
  have e : valV (wkv W) (Sum.inr "sort" : L2.Key) = some (V.str W.sort) := by kernel_rfl
  rw [← e]
  exact DGet.k (k := Sum.inr "sort") G.at_
theorem get_jobs {H : Hp} {b wd : Addr} {W : Wv} {L : Lsts} (G : Gs H b wd W L) : DGet H wd (.str "jobs") (some (.ref W.aj)) := by
  have e : valV (wkv W) (Sum.inr "jobs" : L2.Key) = some (V.ref W.aj) := by kernel_rfl
  rw [← e]
  exact DGet.k (k := Sum.inr "jobs") G.at_
theorem get_known {H : Hp} {b wd : Addr} {W : Wv} {L : Lsts} (G : Gs H b wd W L) : DGet H wd (.str "known") (some (.ref W.ak)) := by
  have e : valV (wkv W) (Sum.inr "known" : L2.Key) = some (V.ref W.ak) := by kernel_rfl
  rw [← e]
  exact DGet.k (k := Sum.inr "known") G.at_
theorem get_walks {H : Hp} {b wd : Addr} {W : Wv} {L : Lsts} (G : Gs H b wd W L) : DGet H wd (.str "walks") (some (.ref W.aw)) := by
  have e : valV (wkv W) (Sum.inr "walks" : L2.Key) = some (V.ref W.aw) := by kernel_rfl
  rw [← e]
  exact DGet.k (k := Sum.inr "walks") G.at_
theorem get_gates {H : Hp} {b wd : Addr} {W : Wv} {L : Lsts} (G : Gs H b wd W L) : DGet H wd (.str "gates") (some (.ref W.ag)) := by
  have e : valV (wkv W) (Sum.inr "gates" : L2.Key) = some (V.ref W.ag) := by kernel_rfl
  rw [← e]
  exact DGet.k (k := Sum.inr "gates") G.at_
theorem get_notes {H : Hp} {b wd : Addr} {W : Wv} {L : Lsts} (G : Gs H b wd W L) : DGet H wd (.str "notes") (some (.ref W.an)) := by
  have e : valV (wkv W) (Sum.inr "notes" : L2.Key) = some (V.ref W.an) := by kernel_rfl
  rw [← e]
  exact DGet.k (k := Sum.inr "notes") G.at_
theorem put_left (W : Wv) (n : Nat) : putK (wkv W) (Sum.inr "left" : L2.Key) (.int (n : Int)) = wkv { W with left := n } := by kernel_rfl
theorem Gs.put {H : Hp} {b wd : Addr} {W : Wv} {L : Lsts} (G : Gs H b wd W L) (n : Nat) : Gs (upd H wd (.dK (wkv { W with left := n }))) b wd { W with left := n } L := by
  have mv : ∀ {a : Addr} {zs : List Str}, Nm H a zs → Nm (upd H wd (.dK (wkv { W with left := n }))) a zs := fun N => N.move (by rw [upd_ne (N.ne G.at_)]; exact N.at_)
  obtain ⟨c, s, m, e⟩ := G.box
  exact ⟨⟨c, s, m, by rw [upd_ne G.bw.symm]; exact e⟩, upd_same, mv G.j, mv G.k, mv G.w, mv G.g, mv G.n, G.j0, G.g0, G.n0⟩
/-- a new list is laid, or grows -/
theorem Gs.grow {H H' : Hp} {b wd l : Addr} {W W0 : Wv} {L : Lsts} {o : HO} (G : Gs H' b wd W L) (n : H l = none) (G0 : Gs H b wd W0 L) (k : Kw b wd H H') (ej : W.aj = W0.aj) (ek : W.ak = W0.ak) (ew : W.aw = W0.aw) (eg : W.ag = W0.ag) (en : W.an = W0.an) : Gs (upd H' l o) b wd W L := by
  have mv : ∀ {a : Addr} {zs : List Str}, H a ≠ none → Nm H' a zs → Nm (upd H' l o) a zs := fun h N => N.move (by
    rw [upd_ne (fun z => h (by rw [z]; exact n))]
    exact N.at_)
  have some_ : ∀ {a : Addr} {zs : List Str}, Nm H a zs → H a ≠ none := fun N z => by rw [N.at_] at z; cases z
  obtain ⟨c, s, m, e⟩ := G.box
  refine ⟨⟨c, s, m, by rw [upd_ne (G0.box.ne n)]; exact e⟩, by rw [upd_ne (ne_of_none G0.at_ n)]; exact G.at_, mv (by rw [ej]; exact some_ G0.j) G.j, mv (by rw [ek]; exact some_ G0.k) G.k, mv (by rw [ew]; exact some_ G0.w) G.w, mv (by rw [eg]; exact some_ G0.g) G.g, mv (by rw [en]; exact some_ G0.n) G.n, G.j0, G.g0, G.n0⟩
section
variable {P : Program} {w : World} {K : PySem.W.Frag} {mg : Str → Option Value} {base : Heap}
def fivP : List Str := ["_law_box_here", "_law_world_here", "_law_deep", "_law_is_late", "_law_kept"]
/-- what is passed: depth dp, d more blocks may stand within -/
def Pas (d : Nat) (vs : List V) (H : Hp) (b wd kp : Addr) (dp : Nat) (lt : Bool) (W : Wv) (L : Lsts) (ks : List Str) : Prop :=
  vs = [.ref b, .ref wd, .int (dp : Int), .bl lt, .ref kp] ∧ Gs H b wd W L ∧ H kp = some (.lst (ks.map V.str)) ∧ ks.length ≤ dp ∧ 4 ≤ dp + d ∧ dp ≤ 4 ∧ W.left ≤ 100
/-- what comes back: rows zs, left' rows left -/
def Ret (extra : Nat) (good : List Str → Prop) (H : Hp) (Q : VK) (b wd : Addr) (W : Wv) (L : Lsts) : Prop :=
  ∀ (H' : Hp) (l : Addr) (zs : List Str) (left' : Nat), Kw b wd H H' → Gs H' b wd { W with left := left' } L → left' ≤ W.left → H l = none → H' l = some (.lst (zs.map V.str)) → (∀ z ∈ zs, Rw 30 z) → zs.length ≤ 3 * (extra + (W.left - left')) → hc zs ≤ extra + (W.left - left') → good zs → Q (.ref l) H'
def spRws (d : Nat) : Sp := fun vs H Q _ => ∃ (b wd kp : Addr) (dp : Nat) (lt : Bool) (W : Wv) (L : Lsts) (ks : List Str), Pas d vs H b wd kp dp lt W L ks ∧ Ret 0 (Good W.sort lt ks dp L.k L.j) H Q b wd W L
def spRow (d : Nat) : Sp := fun vs H Q _ => ∃ (b wd kp : Addr) (dp : Nat) (lt : Bool) (W : Wv) (L : Lsts) (ks : List Str), Pas d vs H b wd kp dp lt W L ks ∧ Ret 1 (Good W.sort lt ks dp L.k L.j) H Q b wd W L
def spBk : Nat → Sp
  | 0 => fun _ _ _ _ => False
  | d + 1 => fun vs H Q _ => ∃ (b wd kp : Addr) (dp : Nat) (lt : Bool) (W : Wv) (L : Lsts) (ks : List Str), Pas d vs H b wd kp (dp + 1) lt W L ks ∧ ks.length ≤ dp ∧ Ret 1 (Good W.sort lt ks dp L.k L.j) H Q b wd W L
def rwsN : List Str := ["_law_box_here", "_law_world_here", "_law_deep", "_law_is_late", "_law_kept", "_law_found", "_law_turn"]
theorem sc_rws : FnScope rwsN fivP (defScope t_law_rows) := ⟨rfl, rfl, rfl, by decide +kernel, rfl, by decide +kernel, by decide +kernel⟩
theorem ok_rws (d : Nat) {f ft fr : Addr} {fd dt dr : FuncData} (F : Fun K "_law_rows" "_law_rows" t_law_rows f fd) (B : Bt mg) (GT : FnOk P w K mg base CX0 1 ft dt ["_law_box_here", "_law_many"] spDraw) (aT : mg "_law_take" = some (.ref ft)) (kT : PySem.W.keepIn K (.ref ft) = true) (bT : Binds K dt ["_law_box_here", "_law_many"] [])
    (GR : FnOk P w K mg base CX0 (3 * d + 3) fr dr fivP (spRow d)) (aR : mg "_law_row" = some (.ref fr)) (kR : PySem.W.keepIn K (.ref fr) = true) (bR : Binds K dr fivP []) :
    FnOk P w K mg base CX0 (3 * d + 4) f fd fivP (spRws d) := by
  refine F.ok sc_rws (fun vs H Q E h => ?_) (fun cdv A outer s H vs Q E hr h => ?_)
  · obtain ⟨b, wd, kp, dp, lt, W, L, ks, ⟨rfl, _⟩, _⟩ := h
    rfl
  · obtain ⟨b, wd, kp, dp, lt, W, L, ks, ⟨rfl, G0, hk, lk, hd4, dp4, w100⟩, k⟩ := h
    have nod := sc_rws.nd
    have hr1 : Room 1 (A.deeper (envOfC "_law_rows" (defScope t_law_rows) s.heap.objs.size f cdv)) := hr.mono (by omega)
    have hu1 := hu_of hr
    refine ⟨_, pss_cons (ps_set (i := 5) nod rfl (Or.inl rfl) (pe_lst pa_nil))
      (pss_cons (ps_for PassesOwn.never rfl (pi_range1 rfl B.range (pa_cons (pe_call GT hr1 rfl aT kT bT .nil pass0 (pa_cons (pv 0) (pa_cons pe_int pa_nil))) pa_nil)) (pg_name (i := 6) nod rfl (Or.inl rfl))
        (pss_one (ps_if (pt_cmpR op_gt (pe_dget hu1 (pv 1) pe_str (fun _ _ => rfl)) pe_int (nomark _))
          (pss_cons (ps_dput hu1 (pv 1) pe_str (pe_op op_sub (pe_dget hu1 (pv 1) pe_str (fun _ _ => rfl)) pe_int) rfl)
          (pss_one (ps_expr (pExtend (pv 5) (pe_call GR hr rfl aR kR bR .nil pass0 (pa_cons (pv 0) (pa_cons (pv 1) (pa_cons (pv 2) (pa_cons (pv 3) (pa_cons (pv 4) pa_nil)))))))))) pss_nil)))
      (pss_one (ps_ret (pv 5)))), ?_⟩
    refine ⟨by show 0 ≤ sizeLine; decide, fun fo nfo => nx_of (nx_mk ?_)⟩
    have G1 := G0.same (same_new (o := .lst []) nfo)
    have k1 : Kw b wd H (upd H fo (.lst [])) := Kw.sm (same_new nfo)
    have hf1 : upd H fo (.lst []) fo = some (.lst []) := upd_same
    generalize upd H fo (.lst []) = H1 at G1 k1 hf1 ⊢
    have nfb : fo ≠ b := (G0.box.ne nfo).symm
    have nfw : fo ≠ wd := (ne_of_none G0.at_ nfo).symm
    refine ⟨_, rfl, b, _, rfl, G1.box, by decide, by decide, fun H2 r k2 hr2 => ?_⟩
    refine ⟨r, rfl, by omega, by omega, for_range (lo := 0) (n := r) (fun i σ' H' => ∃ (v6 : Option V) (zs : List Str) (left' : Nat), σ' = [some (.ref b), some (.ref wd), some (.int (dp : Int)), some (.bl lt), some (.ref kp), some (.ref fo), v6] ∧ Kw b wd H H' ∧ Gs H' b wd { W with left := left' } L ∧ left' ≤ W.left ∧ H' fo = some (.lst (zs.map V.str)) ∧ (∀ z ∈ zs, Rw 30 z) ∧ zs.length ≤ 3 * (W.left - left') ∧ hc zs ≤ W.left - left' ∧ Good W.sort lt ks dp L.k L.j zs)
      ⟨none, [], W.left, rfl, k1.trans (Kw.of k2), G1.kp k2, Nat.le_refl _, k2.keep _ _ nfb hf1, fun z h => (nomatch h), by simp, by simp [hc_nil], Good.nil⟩ ?_ ?_⟩
    · rintro i σ' H3 hi ⟨v6, zs, left, rfl, k3, G3, le3, hf3, rz3, lz3, hz3, gz3⟩
      refine nx_of ?_
      refine ⟨_, rfl, wd, _, rfl, get_left G3, _, _, rfl, rfl, _, rfl, ?_⟩
      by_cases c : (0 : Int) < (left : Int)
      · refine iteT' (decide_eq_true c) ?_
        obtain ⟨n, rfl⟩ : ∃ n, left = n + 1 := ⟨left - 1, by omega⟩
        have en : V.int (((n + 1 : Nat) : Int) - 1) = V.int (n : Int) := congrArg V.int (by omega)
        refine ⟨_, rfl, wd, _, rfl, get_left G3, _, _, rfl, rfl, _, rfl, wd, _, rfl, DPut.k (k := Sum.inr "left") G3.at_ (by show 8 < sizeLine; decide), nx_mk ?_⟩
        dsimp only
        rw [en, put_left]
        have G4 := G3.put n
        have k4 : Kw b wd H (upd H3 wd (.dK (wkv { W with left := n }))) := k3.put
        have hf4 : upd H3 wd (.dK (wkv { W with left := n })) fo = some (.lst (zs.map V.str)) := by rw [upd_ne nfw]; exact hf3
        generalize upd H3 wd (.dK (wkv { W with left := n })) = H4 at G4 k4 hf4 ⊢
        have hk4 := k4.lst G0 hk
        refine ⟨_, rfl, .inl ⟨rfl, _, SqL.of hf4⟩, _, rfl, _, rfl, _, rfl, _, rfl, _, rfl, b, wd, kp, dp, lt, { W with left := n }, L, ks, ⟨rfl, G4, hk4, lk, hd4, dp4, (show n ≤ 100 by omega)⟩, fun H5 l ys left' k5 G5 le5 nl hl ry ly hy gy => ?_⟩
        have hf5 := k5 _ _ nfb nfw hf4
        have ll : left' ≤ n := le5
        have ly : ys.length ≤ 3 * (1 + (n - left')) := ly
        refine ⟨fo, l, _, _, rfl, rfl, hf5, hl, ?_, ?_⟩
        · rw [List.length_map, List.length_map, sizeLine_eq]
          omega
        have hy : hc ys ≤ 1 + (n - left') := hy
        refine ⟨_, zs ++ ys, left', rfl, (k4.trans k5).new nfo, G5.grow nfo G0 (k4.trans k5) rfl rfl rfl rfl rfl, by omega, by rw [upd_same, List.map_append], fun z hz => ?_, ?_, ?_, gz3.app gy⟩
        · rcases List.mem_append.mp hz with q | q
          · exact rz3 z q
          · exact ry z q
        · rw [List.length_append]; omega
        · rw [hc_app]; omega
      · refine iteF' (decide_eq_false c) ?_
        exact ⟨_, zs, left, rfl, k3, G3, le3, hf3, rz3, lz3, hz3, gz3⟩
    · rintro σ' H3 ⟨v6, zs, left, rfl, k3, G3, le3, hf3, rz3, lz3, hz3, gz3⟩
      exact ⟨_, rfl, k H3 fo zs left k3 G3 le3 nfo hf3 rz3 (by omega) (by omega) gz3⟩
end
end Ly
end
section
set_option Elab.async false
set_option linter.all false
set_option maxRecDepth 100000
/-! A row; a block. -/
namespace Ly
open PySem PySem.Spec PyProof.Rows L2
def wordK (z : Str) : Prop := z = "say" ∨ z = "pause" ∨ z = "wait" ∨ z = "open" ∨ z = "begin" ∨ z = "fail"
theorem eleven {r : Nat} (h : r < 11) : ∃ z : Str, [V.str "say", V.str "say", V.str "say", V.str "pause", V.str "pause", V.str "wait", V.str "wait", V.str "open", V.str "open", V.str "begin", V.str "fail"][r]? = some (V.str z) ∧ Rw 5 z ∧ wordK z := by
  have q : ∀ j : Fin 11, ∃ z : Str, [V.str "say", V.str "say", V.str "say", V.str "pause", V.str "pause", V.str "wait", V.str "wait", V.str "open", V.str "open", V.str "begin", V.str "fail"][j.1]? = some (V.str z) ∧ z ∈ [("say" : Str), "pause", "wait", "open", "begin", "fail"] := by
    intro j
    match j with
    | ⟨0, _⟩ => exact ⟨"say", rfl, by decide +kernel⟩
    | ⟨1, _⟩ => exact ⟨"say", rfl, by decide +kernel⟩
    | ⟨2, _⟩ => exact ⟨"say", rfl, by decide +kernel⟩
    | ⟨3, _⟩ => exact ⟨"pause", rfl, by decide +kernel⟩
    | ⟨4, _⟩ => exact ⟨"pause", rfl, by decide +kernel⟩
    | ⟨5, _⟩ => exact ⟨"wait", rfl, by decide +kernel⟩
    | ⟨6, _⟩ => exact ⟨"wait", rfl, by decide +kernel⟩
    | ⟨7, _⟩ => exact ⟨"open", rfl, by decide +kernel⟩
    | ⟨8, _⟩ => exact ⟨"open", rfl, by decide +kernel⟩
    | ⟨9, _⟩ => exact ⟨"begin", rfl, by decide +kernel⟩
    | ⟨10, _⟩ => exact ⟨"fail", rfl, by decide +kernel⟩
  obtain ⟨z, e, m⟩ := q ⟨r, h⟩
  refine ⟨z, e, rw_all (n := 5) (by decide +kernel) z m, ?_⟩
  rcases List.mem_cons.mp m with q | m
  · exact .inl q
  rcases List.mem_cons.mp m with q | m
  · exact .inr (.inl q)
  rcases List.mem_cons.mp m with q | m
  · exact .inr (.inr (.inl q))
  rcases List.mem_cons.mp m with q | m
  · exact .inr (.inr (.inr (.inl q)))
  rcases List.mem_cons.mp m with q | m
  · exact .inr (.inr (.inr (.inr (.inl q))))
  · exact .inr (.inr (.inr (.inr (.inr (List.mem_singleton.mp m)))))
theorem hc_le (zs : List Str) : hc zs ≤ zs.length := List.length_filter_le _ _
section
variable {P : Program} {w : World} {K : PySem.W.Frag} {mg : Str → Option Value} {base : Heap}
def rowN : List Str := ["_law_box_here", "_law_world_here", "_law_deep", "_law_is_late", "_law_kept", "_law_form", "_law_word"]
theorem sc_row : FnScope rowN fivP (defScope t_law_row) := ⟨rfl, rfl, rfl, by decide +kernel, rfl, by decide +kernel, by decide +kernel⟩
/-- one row comes back -/
theorem ret_one {H H1 : Hp} {Q : VK} {b wd : Addr} {W : Wv} {L : Lsts} {z : Str} {good : List Str → Prop} (k : Ret 1 good H Q b wd W L) (kw : Kw b wd H H1) (G : Gs H1 b wd W L) (rz : Rw 30 z) (gz : good [z]) {l : Addr} (nl : H1 l = none) : Q (.ref l) (upd H1 l (.lst [V.str z])) := by
  refine k _ l [z] W.left (kw.trans (Kw.sm (same_new nl))) (G.same (same_new nl)) (Nat.le_refl _) (kw.free G nl).1 upd_same (fun y hy => by rw [List.mem_singleton.mp hy]; exact rz) ?_ ?_ gz
  · show 1 ≤ 3 * (1 + _); omega
  · exact Nat.le_trans (hc_one z) (Nat.le_add_right _ _)
theorem ok_row (d : Nat) {f ft fp fb : Addr} {fd dt dp' db : FuncData} (F : Fun K "_law_row" "_law_row" t_law_row f fd) (B : Bt mg) (GT : FnOk P w K mg base CX0 1 ft dt ["_law_box_here", "_law_many"] spDraw) (aT : mg "_law_take" = some (.ref ft)) (kT : PySem.W.keepIn K (.ref ft) = true) (bT : Binds K dt ["_law_box_here", "_law_many"] [])
    (GP : FnOk P w K mg base CX0 2 fp dp' ["_law_box_here", "_law_items"] spPick) (aP : mg "_law_pick" = some (.ref fp)) (kP : PySem.W.keepIn K (.ref fp) = true) (bP : Binds K dp' ["_law_box_here", "_law_items"] [])
    (GB : FnOk P w K mg base CX0 (3 * d + 2) fb db fivP (spBk d)) (aB : mg "_law_block" = some (.ref fb)) (kB : PySem.W.keepIn K (.ref fb) = true) (bB : Binds K db fivP []) :
    FnOk P w K mg base CX0 (3 * d + 3) f fd fivP (spRow d) := by
  refine F.ok sc_row (fun vs H Q E h => ?_) (fun cdv A outer s H vs Q E hr h => ?_)
  · obtain ⟨b, wd, kp, dp, lt, W, L, ks, ⟨rfl, _⟩, _⟩ := h
    rfl
  · obtain ⟨b, wd, kp, dp, lt, W, L, ks, ⟨rfl, G0, hk, lk, hd4, dp4, w100⟩, k⟩ := h
    have nod := sc_row.nd
    have hr1 : Room 1 (A.deeper (envOfC "_law_row" (defScope t_law_row) s.heap.objs.size f cdv)) := hr.mono (by omega)
    have hr2 : Room 2 (A.deeper (envOfC "_law_row" (defScope t_law_row) s.heap.objs.size f cdv)) := hr.mono (by omega)
    have hu1 := hu_of hr
    refine ⟨_, pss_cons (ps_set (i := 5) nod rfl (Or.inl rfl) (pe_call GT hr1 rfl aT kT bT .nil pass0 (pa_cons (pv 0) (pa_cons pe_int pa_nil))))
      (pss_cons (ps_if (PW.pt (pw_and (pt_cmpR op_gt (pv 5) pe_int (nomark _)) (pw_and1 (pt_cmpR op_lt (pv 2) (pe_dget hu1 (pv 1) pe_str (fun _ _ => rfl)) (nomark _)))))
        (pss_one (ps_ret (pe_call GB hr rfl aB kB bB .nil pass0 (pa_cons (pv 0) (pa_cons (pv 1) (pa_cons (pe_op op_add (pv 2) pe_int) (pa_cons (pv 3) (pa_cons (pv 4) pa_nil)))))))) pss_nil)
      (pss_cons (ps_if (PW.pt (pw_and (pt_cmpR op_lt (pv 5) pe_int (nomark _)) (pw_and (pt_cmpR op_eq (pe_dget hu1 (pv 1) pe_str (fun _ _ => rfl)) pe_str (nomark _)) (pw_and1 (pt_not (pt_val (pv 3)))))))
        (pss_one (ps_ret (pe_lst (pa_cons pe_str pa_nil)))) pss_nil)
      (pss_cons (ps_set (i := 6) nod rfl (Or.inl rfl) (pe_ix ix_list (pe_lst (pa_cons pe_str (pa_cons pe_str (pa_cons pe_str (pa_cons pe_str (pa_cons pe_str (pa_cons pe_str (pa_cons pe_str (pa_cons pe_str (pa_cons pe_str (pa_cons pe_str (pa_cons pe_str pa_nil)))))))))))) (pe_call GT hr1 rfl aT kT bT .nil pass0 (pa_cons (pv 0) (pa_cons pe_int pa_nil))) (fun _ _ => rfl)))
      (pss_cons (ps_if (pt_cmpR op_eq (pv 6) pe_str (nomark _)) (pss_one (ps_ret (pe_lst (pa_cons pe_str pa_nil)))) pss_nil)
      (pss_cons (ps_if (pt_cmpR op_eq (pv 6) pe_str (nomark _)) (pss_one (ps_ret (pe_lst (pa_cons (pe_op op_add_str pe_str (pe_call GP hr2 rfl aP kP bP .nil pass0 (pa_cons (pv 0) (pa_cons (pe_dget hu1 (pv 1) pe_str (fun _ _ => rfl)) pa_nil)))) pa_nil)))) pss_nil)
      (pss_one (ps_ret (pe_lst (pa_cons (pe_op op_add_str (pe_op op_add_str (pv 6) pe_str) (pe_call GP hr2 rfl aP kP bP .nil pass0 (pa_cons (pv 0) (pa_cons (pe_dget hu1 (pv 1) (pe_ifExp (pt_cmpR op_in_seq (pv 6) (pe_tup (pa_cons pe_str (pa_cons pe_str pa_nil))) (by rfl)) pe_str pe_str) (fun _ _ => rfl)) pa_nil)))) pa_nil))))))))), ?_⟩
    refine ⟨_, rfl, b, _, rfl, G0.box, by decide, by decide, fun H1 r1 k1 h1 => nx_of (nx_mk ?_)⟩
    have G1 := G0.kp k1
    have kw1 : Kw b wd H H1 := Kw.of k1
    have hk1 := kw1.lst G0 hk
    -- a block
    refine seq_cut (t := tIfS _ _ _) (fun σ' H' => σ' = [some (.ref b), some (.ref wd), some (.int (dp : Int)), some (.bl lt), some (.ref kp), some (.int (r1 : Int)), none] ∧ H' = H1) (fun N hN => ?_) ?_
    · refine ⟨_, rfl, _, _, rfl, rfl, _, rfl, ?_⟩
      by_cases c1 : (10 : Int) < (r1 : Int)
      · refine iteT' (decide_eq_true c1) ?_
        refine ⟨_, rfl, _, rfl, wd, _, rfl, get_deep G1, _, _, rfl, rfl, _, rfl, ?_⟩
        by_cases c2 : (dp : Int) < 4
        · refine iteT' (decide_eq_true c2) ?_
          obtain ⟨e, rfl⟩ : ∃ e, d = e + 1 := ⟨d - 1, by omega⟩
          refine ⟨_, rfl, _, rfl, _, rfl, _, _, rfl, rfl, _, rfl, _, rfl, b, wd, kp, dp, lt, W, L, ks, ⟨rfl, G1, hk1, by omega, by omega, by omega, w100⟩, lk, ?_⟩
          intro H2 l zs left' kw G le nl hl rz lz hz gz
          exact k H2 l zs left' (kw1.trans kw) G le (kw1.free G1 nl).1 hl rz lz hz gz
        · refine iteF' (decide_eq_false c2) (nx_mk (hN _ _ ⟨rfl, rfl⟩))
      · refine iteF' (decide_eq_false c1) (nx_mk (hN _ _ ⟨rfl, rfl⟩))
    rintro σ0 H1 ⟨rfl, rfl⟩
    -- give
    refine seq_cut (t := tIfS _ _ _) (fun σ' H' => σ' = [some (.ref b), some (.ref wd), some (.int (dp : Int)), some (.bl lt), some (.ref kp), some (.int (r1 : Int)), none] ∧ H' = H1) (fun N hN => ?_) ?_
    · refine ⟨_, rfl, _, _, rfl, rfl, _, rfl, ?_⟩
      by_cases c1 : (r1 : Int) < 4
      · refine iteT' (decide_eq_true c1) ?_
        refine ⟨_, rfl, wd, _, rfl, get_sort G1, rfl, _, rfl, ?_⟩
        cases c2 : decide (V.str W.sort = V.str "walk") with
        | true =>
          refine iteT ⟨_, rfl, _, rfl, ?_⟩
          cases lt with
          | false =>
            refine iteT ⟨by show 1 ≤ sizeLine; decide, fun l nl => ?_⟩
            exact ret_one k kw1 G1 (rw_of (by decide +kernel)) (good_give (V.str.inj (of_decide_eq_true c2)) rfl) nl
          | true => exact iteF (nx_mk (hN _ _ ⟨rfl, rfl⟩))
        | false => exact iteF (nx_mk (hN _ _ ⟨rfl, rfl⟩))
      · refine iteF' (decide_eq_false c1) (nx_mk (hN _ _ ⟨rfl, rfl⟩))
    rintro σ0 H1 ⟨rfl, rfl⟩
    -- the word
    refine ⟨by show 11 ≤ sizeLine; decide, fun p np => ?_⟩
    generalize hlst : [V.str "say", V.str "say", V.str "say", V.str "pause", V.str "pause", V.str "wait", V.str "wait", V.str "open", V.str "open", V.str "begin", V.str "fail"] = ls
    have G2 := G1.same (same_new (o := .lst ls) np)
    have kw2 : Kw b wd H (upd H1 p (.lst ls)) := kw1.trans (Kw.sm (same_new np))
    have hp : upd H1 p (.lst ls) p = some (.lst ls) := upd_same
    have qb : p ≠ b := (G1.box.ne np).symm
    generalize upd H1 p (.lst ls) = H2 at G2 kw2 hp ⊢
    refine ⟨_, rfl, b, _, rfl, G2.box, by decide, by decide, fun H3 r3 k3 h3 => ?_⟩
    obtain ⟨z, ez, rz, wz⟩ := eleven (r := r3) (by omega)
    rw [hlst] at ez
    refine ⟨p, _, _, _, rfl, rfl, SqL.of (k3.keep _ _ qb hp), atI_nat ez, nx_of (nx_mk ?_)⟩
    have G3 := G2.kp k3
    have kw3 := kw2.trans (Kw.of k3)
    -- pause
    refine seq_cut (t := tIfS _ _ _) (fun σ' H' => σ' = [some (.ref b), some (.ref wd), some (.int (dp : Int)), some (.bl lt), some (.ref kp), some (.int (r1 : Int)), some (.str z)] ∧ H' = H3 ∧ z ≠ "pause") (fun N hN => ?_) ?_
    · refine ⟨_, rfl, rfl, _, rfl, ?_⟩
      cases c : decide (V.str z = V.str "pause") with
      | true =>
        refine iteT ⟨by show 1 ≤ sizeLine; decide, fun l nl => ?_⟩
        exact ret_one k kw3 G3 (rw_of (by decide +kernel)) good_pause nl
      | false => exact iteF (nx_mk (hN _ _ ⟨rfl, rfl, fun q => absurd (congrArg V.str q) (of_decide_eq_false c)⟩))
    rintro σ0 H3 ⟨rfl, rfl, np1⟩
    -- begin
    refine seq_cut (t := tIfS _ _ _) (fun σ' H' => σ' = [some (.ref b), some (.ref wd), some (.int (dp : Int)), some (.bl lt), some (.ref kp), some (.int (r1 : Int)), some (.str z)] ∧ H' = H3 ∧ z ≠ "begin") (fun N hN => ?_) ?_
    · refine ⟨_, rfl, rfl, _, rfl, ?_⟩
      cases c : decide (V.str z = V.str "begin") with
      | true =>
        refine iteT ?_
        have := G3.j.few
        refine ⟨_, rfl, _, rfl, wd, _, rfl, get_jobs G3, b, _, L.j, rfl, G3.box, G3.j.at_, G3.j0, by omega, fun H4 y k4 hy => ?_⟩
        have ry := G3.j.rw y hy
        have rb : Rw 6 "begin " := rw_of (by decide +kernel)
        refine ⟨_, _, rfl, rfl, ?_, by show 1 ≤ sizeLine; decide, fun l nl => ?_⟩
        · rw [sizeLine_eq]; have := rb.len; have := ry.len; omega
        · exact ret_one k (kw3.trans (Kw.of k4)) (G3.kp k4) ((rb.app ry).wider (by decide)) (good_begin (G3.j.nm y hy) hy) nl
      | false => exact iteF (nx_mk (hN _ _ ⟨rfl, rfl, fun q => absurd (congrArg V.str q) (of_decide_eq_false c)⟩))
    rintro σ0 H3 ⟨rfl, rfl, np2⟩
    have wz4 : z = "say" ∨ z = "wait" ∨ z = "open" ∨ z = "fail" := by
      rcases wz with q | q | q | q | q | q
      · exact .inl q
      · exact absurd q np1
      · exact .inr (.inl q)
      · exact .inr (.inr (.inl q))
      · exact absurd q np2
      · exact .inr (.inr (.inr q))
    have r1s : Rw 1 " " := rw_of (by decide +kernel)
    refine ⟨_, rfl, _, _, rfl, rfl, ?_, _, rfl, _, rfl, _, rfl, ?_⟩
    · rw [sizeLine_eq]; have := rz.len; have := r1s.len; omega
    have fin : ∀ (x : Str) (ax : Addr) (zs : List Str) (H5 : Hp), Same H3 H5 → DGet H5 wd (.str x) (some (.ref ax)) → Nm H3 ax zs → 0 < zs.length →
        ∃ a v, (V.ref wd) = .ref a ∧ DGet H5 a (.str x) (some v) ∧ ∃ (b2 q : Addr) (ys : List Str), [V.ref b, v] = [.ref b2, .ref q] ∧ BoxAt H5 b2 ∧ H5 q = some (.lst (ys.map V.str)) ∧ 0 < ys.length ∧ ys.length < 1000 ∧ ∀ (H' : Hp) (y : Str), BKp b2 H5 H' → y ∈ ys →
          ∃ i j, V.str (z ++ " ") = .str i ∧ V.str y = .str j ∧ i.length + j.length ≤ sizeLine ∧ 1 ≤ sizeLine ∧ ∀ l, H' l = none → Q (.ref l) (upd H' l (.lst [V.str (i ++ j)])) := by
      intro x ax zs H5 s5 g5 n5 p5
      have G5 := G3.same s5
      refine ⟨wd, _, rfl, g5, b, ax, zs, rfl, G5.box, s5 _ _ n5.at_, p5, by have := n5.few; omega, fun H6 y k6 hy => ⟨_, _, rfl, rfl, ?_, by decide, fun l nl => ?_⟩⟩
      · have ry := n5.rw y hy
        have := (rz.app r1s).len
        have := ry.len
        rw [sizeLine_eq]; omega
      · exact ret_one k ((kw3.trans (Kw.sm s5)).trans (Kw.of k6)) (G5.kp k6) (((rz.app r1s).app (n5.rw y hy)).wider (by decide)) (good_word wz4 (n5.nm y hy)) nl
    refine step_in ["wait", "open"] z (fun Qa q => q) (by decide) fun H5 s5 => ?_
    cases c : (["wait", "open"] : List Str).any (· == z) with
    | true => exact iteT (fin "gates" _ _ H5 s5 (get_gates (G3.same s5)) G3.g G3.g0)
    | false => exact iteF (fin "notes" _ _ H5 s5 (get_notes (G3.same s5)) G3.n G3.n0)
end
end Ly
end
section
set_option Elab.async false
set_option linter.all false
set_option maxRecDepth 100000
namespace Ly
open PySem PySem.Spec PyProof.Rows L2
theorem times3 : ∀ j : Fin 3, fixL.contains (("repeat " : Str) ++ (toString (1 + (j.1 : Int)) : String)) = true ∧ rwB 30 (("repeat " : Str) ++ (toString (1 + (j.1 : Int)) : String)) = true := by decide +kernel
theorem times3_log : ∀ j : Fin 3, (1 + (j.1 : Int)).natAbs.log2 < 1920 := by decide +kernel
theorem times3_len : ∀ j : Fin 3, (("repeat " : Str).length + ((toString (1 + (j.1 : Int)) : String) : Str).length) ≤ 40 := by decide +kernel
theorem times3_fig : ∀ j : Fin 3, isFigure ((toString (1 + (j.1 : Int)) : String) : Str) = true ∧ noBlB ((toString (1 + (j.1 : Int)) : String) : Str) = true := by decide +kernel
theorem rep_eq (z : Str) : ("repeat " : Str) ++ z = "repeat" ++ " " ++ z := by
  rw [show (("repeat" : Str) ++ " " : Str) = "repeat " by decide +kernel]
theorem marks3 {r : Nat} (h : r < 3) : ∃ z : Str, [V.str "late", V.str "mend", V.str "late"][r]? = some (V.str z) ∧ Rw 30 z ∧ fixL.contains z = true ∧ (z = "late" ∨ z = "mend") := by
  match r, h with
  | 0, _ => exact ⟨"late", rfl, rw_of (by decide +kernel), by decide +kernel, .inl rfl⟩
  | 1, _ => exact ⟨"mend", rfl, rw_of (by decide +kernel), by decide +kernel, .inr rfl⟩
  | 2, _ => exact ⟨"late", rfl, rw_of (by decide +kernel), by decide +kernel, .inl rfl⟩
theorem ends5 {r : Nat} (h : r < 5) : ∃ z : Str, [V.str "", V.str " 1", V.str " 1", V.str " 2", V.str " 3"][r]? = some (V.str z) ∧ Rw 2 z ∧ (z = "" ∨ z = " 1" ∨ z = " 2" ∨ z = " 3") := by
  match r, h with
  | 0, _ => exact ⟨"", rfl, rw_of (by decide +kernel), .inl rfl⟩
  | 1, _ => exact ⟨" 1", rfl, rw_of (by decide +kernel), .inr (.inl rfl)⟩
  | 2, _ => exact ⟨" 1", rfl, rw_of (by decide +kernel), .inr (.inl rfl)⟩
  | 3, _ => exact ⟨" 2", rfl, rw_of (by decide +kernel), .inr (.inr (.inl rfl))⟩
  | 4, _ => exact ⟨" 3", rfl, rw_of (by decide +kernel), .inr (.inr (.inr rfl))⟩
theorem ifS_two {c : TT} {t u : TS} {D : Ends} {σ : L2.St} {H : Hp} (RT RU : Hp → Prop) (h : ∀ T U : Hp → Prop, (∀ H', RT H' → T H') → (∀ H', RU H' → U H') → c σ H fun b H' => if b = true then T H' else U H')
    (ht : ∀ H', RT H' → t D σ H') (hu : ∀ H', RU H' → u D σ H') : tIfS c t u D σ H := h (fun H' => t D σ H') (fun H' => u D σ H') ht hu
theorem not_inV {wk : Str} {ks : List Str} (q : (!inV (.str wk) (ks.map V.str)) = true) : wk ∉ ks := fun h => by
  have e : inV (.str wk) (ks.map V.str) = true := by
    rw [inV_strs, List.any_eq_true]
    exact ⟨wk, h, beq_self_eq_true _⟩
  rw [e] at q
  cases q
theorem rw_lits {n : Nat} {z : Str} (h : rwB n z = true) : Rw n z := rw_of h
theorem hc_end (zs : List Str) : hc (zs ++ [("end" : Str)]) = hc zs := by
  rw [hc_app]
  rfl
theorem Nm.eqD {K : PySem.W.Frag} {H : Hp} {a : Addr} {zs : List Str} (N : Nm H a zs) : Dp K H (.ref a) (.list (zs.map PyData.str)) ∧ SeqAt.shaped (.list (zs.map PyData.str)) = true := by
  obtain ⟨d2, d3⟩ := shaped_strs zs fun z hz => (N.rw z hz).pln
  refine ⟨.lst (SqL.of N.at_) (dp_strs zs), ?_⟩
  show (PyData.canLayAll0 _ && decide (PyData.depth (.list (zs.map PyData.str)) ≤ 64)) = true
  rw [d2, Bool.true_and]
  refine decide_eq_true ?_
  unfold PyData.depth
  rw [d3]
  decide
section
variable {P : Program} {w : World} {K : PySem.W.Frag} {mg : Str → Option Value} {base : Heap}
def blkN : List Str := ["_law_box_here", "_law_world_here", "_law_deep", "_law_is_late", "_law_kept", "_law_form", "_law_times", "_law_word", "_law_first", "_law_second", "_law_walk", "_law_may_keep", "_law_hows", "_law_how", "_law_within"]
theorem sc_blk : FnScope blkN fivP (defScope t_law_block) := ⟨rfl, rfl, rfl, by decide +kernel, rfl, by decide +kernel, by decide +kernel⟩
theorem ok_blk (d : Nat) {f ft fp fs : Addr} {fd dt dp' ds : FuncData} (F : Fun K "_law_block" "_law_block" t_law_block f fd) (B : Bt mg) (GT : FnOk P w K mg base CX0 1 ft dt ["_law_box_here", "_law_many"] spDraw) (aT : mg "_law_take" = some (.ref ft)) (kT : PySem.W.keepIn K (.ref ft) = true) (bT : Binds K dt ["_law_box_here", "_law_many"] [])
    (GP : FnOk P w K mg base CX0 2 fp dp' ["_law_box_here", "_law_items"] spPick) (aP : mg "_law_pick" = some (.ref fp)) (kP : PySem.W.keepIn K (.ref fp) = true) (bP : Binds K dp' ["_law_box_here", "_law_items"] [])
    (GS : FnOk P w K mg base CX0 (3 * d + 4) fs ds fivP (spRws d)) (aS : mg "_law_rows" = some (.ref fs)) (kS : PySem.W.keepIn K (.ref fs) = true) (bS : Binds K ds fivP []) :
    FnOk P w K mg base CX0 (3 * d + 5) f fd fivP (spBk (d + 1)) := by
  refine F.ok sc_blk (fun vs H Q E h => ?_) (fun cdv A outer s H vs Q E hr h => ?_)
  · obtain ⟨b, wd, kp, dp, lt, W, L, ks, ⟨rfl, _⟩, _⟩ := h
    rfl
  · obtain ⟨b, wd, kp, dp, lt, W, L, ks, ⟨rfl, G0, hk, lk0, hd4, dp4, w100⟩, lk, k⟩ := h
    have nod := sc_blk.nd
    have hr1 : Room 1 (A.deeper (envOfC "_law_block" (defScope t_law_block) s.heap.objs.size f cdv)) := hr.mono (by omega)
    have hr2 : Room 2 (A.deeper (envOfC "_law_block" (defScope t_law_block) s.heap.objs.size f cdv)) := hr.mono (by omega)
    have hu1 := hu_of hr
    have hu : (A.deeper (envOfC "_law_block" (defScope t_law_block) s.heap.objs.size f cdv)).units + 64 < cLine := hr.units
    refine ⟨_, pss_cons (ps_set (i := 5) nod rfl (Or.inl rfl) (pe_call GT hr1 rfl aT kT bT .nil pass0 (pa_cons (pv 0) (pa_cons pe_int pa_nil))))
      (pss_cons (ps_if (pt_cmpR op_eq (pv 5) pe_int (nomark _))
        (pss_cons (ps_set (i := 6) nod rfl (Or.inl rfl) (pe_callTy call_str_int rfl B.str (by decide +kernel) (pa_cons (pe_op op_add pe_int (pe_call GT hr1 rfl aT kT bT .nil pass0 (pa_cons (pv 0) (pa_cons pe_int pa_nil)))) pa_nil)))
        (pss_one (ps_ret (pe_op op_cat (pe_op op_cat (pe_lst (pa_cons (pe_op op_add_str pe_str (pv 6)) pa_nil)) (pe_call GS hr rfl aS kS bS .nil pass0 (pa_cons (pv 0) (pa_cons (pv 1) (pa_cons (pv 2) (pa_cons (pv 3) (pa_cons (pv 4) pa_nil))))))) (pe_lst (pa_cons pe_str pa_nil)))))) pss_nil)
      (pss_cons (ps_if (PW.pt (pw_or (pt_cmpR op_lt (pv 5) pe_int (nomark _)) (pw_or1 (pt_cmpR (op_eqD hu) (pe_dget hu1 (pv 1) pe_str (fun _ _ => rfl)) (pe_lst pa_nil) (nomark _)))))
        (pss_cons (ps_par (i := 7) (j := 8) (by rfl) nod rfl rfl (by decide) rfl rfl (pa_cons (pe_ix ix_list (pe_lst (pa_cons pe_str (pa_cons pe_str (pa_cons pe_str pa_nil)))) (pe_call GT hr1 rfl aT kT bT .nil pass0 (pa_cons (pv 0) (pa_cons pe_int pa_nil))) (fun _ _ => rfl)) (pa_cons (pe_call GS hr rfl aS kS bS .nil pass0 (pa_cons (pv 0) (pa_cons (pv 1) (pa_cons (pv 2) (pa_cons (pv 3) (pa_cons (pv 4) pa_nil)))))) pa_nil)) (by rfl))
        (pss_cons (ps_set (i := 9) nod rfl (Or.inl rfl) (pe_call GS hr rfl aS kS bS .nil pass0 (pa_cons (pv 0) (pa_cons (pv 1) (pa_cons (pv 2) (pa_cons (pe_or (pv 3) (pe_one (pe_cmpR op_eq (pv 7) pe_str (nomark _)))) (pa_cons (pv 4) pa_nil)))))))
        (pss_one (ps_ret (pe_op op_cat (pe_op op_cat (pe_op op_cat (pe_op op_cat (pe_lst (pa_cons pe_str pa_nil)) (pv 8)) (pe_lst (pa_cons (pv 7) pa_nil))) (pv 9)) (pe_lst (pa_cons pe_str pa_nil))))))) pss_nil)
      (pss_cons (ps_set (i := 10) nod rfl (Or.inl rfl) (pe_call GP hr2 rfl aP kP bP .nil pass0 (pa_cons (pv 0) (pa_cons (pe_dget hu1 (pv 1) pe_str (fun _ _ => rfl)) pa_nil))))
      (pss_cons (ps_set (i := 11) nod rfl (Or.inl rfl) (pe_and (pe_cmpR op_eq (pe_dget hu1 (pv 1) pe_str (fun _ _ => rfl)) pe_str (nomark _)) (pe_one (pe_cmpR op_notIn_seq (pv 10) (pv 4) (by rfl)))))
      (pss_cons (ps_set (i := 12) nod rfl (Or.inl rfl) (pe_op op_cat (pe_lst (pa_cons pe_str (pa_cons pe_str (pa_cons pe_str (pa_cons pe_str pa_nil))))) (pe_op op_rep (pe_lst (pa_cons pe_str pa_nil)) (pe_op op_mul pe_int (pe_callTy call_int1 rfl B.int (by decide +kernel) (pa_cons (pv 11) pa_nil))))))
      (pss_cons (ps_par (i := 13) (j := 6) (by rfl) nod rfl rfl (by decide) rfl rfl (pa_cons (pe_call GP hr2 rfl aP kP bP .nil pass0 (pa_cons (pv 0) (pa_cons (pv 12) pa_nil))) (pa_cons (pe_ix ix_list (pe_lst (pa_cons pe_str (pa_cons pe_str (pa_cons pe_str (pa_cons pe_str (pa_cons pe_str pa_nil)))))) (pe_call GT hr1 rfl aT kT bT .nil pass0 (pa_cons (pv 0) (pa_cons pe_int pa_nil))) (fun _ _ => rfl)) pa_nil)) (by rfl))
      (pss_cons (ps_set (i := 14) nod rfl (Or.inl rfl) (pe_ifExp (pt_cmpR op_eq (pv 13) pe_str (nomark _)) (pe_op op_cat (pv 4) (pe_lst (pa_cons (pv 10) pa_nil))) (pv 4)))
      (pss_one (ps_ret (pe_op op_cat (pe_op op_cat (pe_lst (pa_cons (pe_op op_add_str (pe_op op_add_str (pe_op op_add_str (pe_op op_add_str pe_str (pv 10)) pe_str) (pv 13)) (pv 6)) pa_nil)) (pe_call GS hr rfl aS kS bS .nil pass0 (pa_cons (pv 0) (pa_cons (pv 1) (pa_cons (pv 2) (pa_cons (pv 3) (pa_cons (pv 14) pa_nil))))))) (pe_lst (pa_cons pe_str pa_nil)))))))))))), ?_⟩
    -- a head, rows, "end"
    have close : ∀ (z : Str) (H1 H2 : Hp) (p1 l : Addr) (zs : List Str) (left' : Nat), Kw b wd H H1 → Gs H1 b wd W L → H1 p1 = some (.lst [V.str z]) → Kw b wd H1 H2 → Gs H2 b wd { W with left := left' } L → left' ≤ W.left → H1 l = none → H2 l = some (.lst (zs.map V.str)) → (∀ y ∈ zs, Rw 30 y) → zs.length ≤ 3 * (0 + (W.left - left')) → hc zs ≤ 0 + (W.left - left') → Rw 30 z → Good W.sort lt ks dp L.k L.j (z :: (zs ++ [("end" : Str)])) →
        rCat (.ref p1) (.ref l) H2 fun x H' => tLst (tCons (tC (.str "end")) tNil) [] H' fun y H3 => rCat x y H3 Q := by
      intro z H1 H2 p1 l zs left' kw1 G1 h1 kw2 G2 le nl hl rz lz hz rzz gzz
      have h2 : H2 p1 = some (.lst [V.str z]) := kw2.lst (zs := [z]) G1 h1
      refine ⟨p1, l, _, _, rfl, rfl, h2, hl, ?_, fun p2 np2 => ?_⟩
      · rw [List.length_map, sizeLine_eq]
        show 1 + _ ≤ _
        omega
      have s2 := same_new (o := .lst ([V.str z] ++ zs.map V.str)) np2
      have hp2 : upd H2 p2 (.lst ([V.str z] ++ zs.map V.str)) p2 = some (.lst ((z :: zs).map V.str)) := upd_same
      have G3 := G2.same s2
      generalize upd H2 p2 (.lst ([V.str z] ++ zs.map V.str)) = H3 at s2 hp2 G3 ⊢
      refine ⟨by show 1 ≤ sizeLine; decide, fun p3 np3 => ?_⟩
      have s3 := same_new (o := .lst [V.str "end"]) np3
      have hp3 : upd H3 p3 (.lst [V.str "end"]) p3 = some (.lst [V.str "end"]) := upd_same
      have hp2 := s3 _ _ hp2
      have G4 := G3.same s3
      generalize upd H3 p3 (.lst [V.str "end"]) = H4 at s3 hp2 hp3 G4 ⊢
      refine ⟨p2, p3, _, _, rfl, rfl, hp2, hp3, ?_, fun p4 np4 => ?_⟩
      · rw [List.length_map, List.length_cons, sizeLine_eq]
        show zs.length + 1 + 1 ≤ _
        omega
      have kw4 : Kw b wd H H4 := ((kw1.trans kw2).trans (Kw.sm s2)).trans (Kw.sm s3)
      refine k _ p4 (z :: (zs ++ [("end" : Str)])) left' (kw4.trans (Kw.sm (same_new np4))) (G4.same (same_new np4)) le (kw4.free G4 np4).1 (by rw [upd_same]; show some (HO.lst ((z :: zs).map V.str ++ [V.str "end"])) = _; rw [← List.cons_append, List.map_append]; rfl) (fun y hy => ?_) ?_ ?_ gzz
      · rcases List.mem_cons.mp hy with q | q
        · rw [q]; exact rzz
        · rcases List.mem_append.mp q with q | q
          · exact rz y q
          · rw [List.mem_singleton.mp q]; exact rw_of (by decide +kernel)
      · rw [List.length_cons, List.length_append]
        have : ([("end" : Str)] : List Str).length = 1 := rfl
        omega
      · have := hc_cons z (zs ++ [("end" : Str)])
        rw [hc_end] at this
        omega
    refine ⟨_, rfl, b, _, rfl, G0.box, by decide, by decide, fun H1 r1 k1 h1 => nx_of (nx_mk ?_)⟩
    have G1 := G0.kp k1
    have kw1 : Kw b wd H H1 := Kw.of k1
    have hk1 := kw1.lst G0 hk
    -- repeat
    refine seq_cut (t := tIfS _ _ _) (fun σ' H' => σ' = [some (.ref b), some (.ref wd), some (.int ((dp + 1 : Nat) : Int)), some (.bl lt), some (.ref kp), some (.int (r1 : Int)), none, none, none, none, none, none, none, none, none] ∧ H' = H1) (fun N hN => ?_) ?_
    · refine ⟨_, rfl, rfl, _, rfl, ?_⟩
      cases c : decide (V.int (r1 : Int) = V.int 0) with
      | false => exact iteF (nx_mk (hN _ _ ⟨rfl, rfl⟩))
      | true =>
        refine iteT ?_
        refine ⟨_, rfl, b, _, rfl, G1.box, by decide, by decide, fun H2 r2 k2 h2 => ?_⟩
        have h3 : r2 < 3 := by omega
        refine ⟨_, _, rfl, rfl, _, rfl, times3_log ⟨r2, h3⟩, nx_of (nx_mk ?_)⟩
        have G2 := G1.kp k2
        have kw2 := kw1.trans (Kw.of k2)
        refine ⟨_, rfl, _, _, rfl, rfl, Nat.le_trans (times3_len ⟨r2, h3⟩) (by decide), by show 1 ≤ sizeLine; decide, fun p1 np1 => ?_⟩
        have s3 := same_new (o := .lst [V.str (("repeat " : Str) ++ (toString (1 + (r2 : Int)) : String))]) np1
        have hp1 : upd H2 p1 (.lst [V.str (("repeat " : Str) ++ (toString (1 + (r2 : Int)) : String))]) p1 = some (.lst [V.str (("repeat " : Str) ++ (toString (1 + (r2 : Int)) : String))]) := upd_same
        have G3 := G2.same s3
        have kw3 := kw2.trans (Kw.sm s3)
        dsimp only
        generalize upd H2 p1 (.lst [V.str (("repeat " : Str) ++ (toString (1 + (r2 : Int)) : String))]) = H3 at s3 hp1 G3 kw3 ⊢
        refine ⟨_, rfl, _, rfl, _, rfl, _, rfl, _, rfl, b, wd, kp, dp + 1, lt, W, L, ks, ⟨rfl, G3, kw3.lst G0 hk, lk0, hd4, dp4, w100⟩, fun H4 l zs left' kw G le nl hl rz lz hz gz => ?_⟩
        refine close _ H3 H4 p1 l zs left' kw3 G3 hp1 kw G le nl hl rz lz hz (rw_of (times3 ⟨r2, h3⟩).2) ?_
        rw [rep_eq]
        exact good_repeat (times3_fig ⟨r2, h3⟩).1 (noBl_of (times3_fig ⟨r2, h3⟩).2) (by omega) gz
    rintro σ0 H1 ⟨rfl, rfl⟩
    -- guard
    refine seq_cut (t := tIfS _ _ _) (fun σ' H' => σ' = [some (.ref b), some (.ref wd), some (.int ((dp + 1 : Nat) : Int)), some (.bl lt), some (.ref kp), some (.int (r1 : Int)), none, none, none, none, none, none, none, none, none] ∧ Same H1 H' ∧ 0 < L.k.length) (fun N hN => ?_) ?_
    · refine ifS_two (fun H' => Same H1 H') (fun H' => Same H1 H' ∧ 0 < L.k.length) (fun T U hT hU => ?_) (fun H2 s2 => ?_) (fun H2 s2 => nx_mk (hN _ _ ⟨rfl, s2.1, s2.2⟩))
      · refine ⟨_, rfl, _, _, rfl, rfl, _, rfl, ?_⟩
        by_cases c1 : (r1 : Int) < 5
        · exact iteT' (decide_eq_true c1) (hT _ (Same.refl _))
        · refine iteF' (decide_eq_false c1) ?_
          refine ⟨_, rfl, wd, _, rfl, get_known G1, by show 0 ≤ sizeLine; decide, fun e ne => ?_⟩
          obtain ⟨d1, d2⟩ := (G1.same (same_new (o := .lst []) ne)).k.eqD (K := K)
          refine ⟨_, .list [], d1, .lst (SqL.of upd_same) .nil, d2, by decide +kernel, _, rfl, ?_⟩
          rw [eqv_nil]
          cases c2 : (L.k.map PyData.str).isEmpty with
          | true => exact iteT (hT _ (same_new ne))
          | false =>
            refine iteF (hU _ ⟨same_new ne, ?_⟩)
            rw [List.isEmpty_map] at c2
            cases q : L.k with
            | nil => rw [q] at c2; cases c2
            | cons _ _ => simp
      · have G2 := G1.same s2
        have kw2 : Kw b wd H H2 := kw1.trans (Kw.sm s2)
        refine ⟨by show 3 ≤ sizeLine; decide, fun p np => ?_⟩
        have s3 := same_new (o := .lst [V.str "late", V.str "mend", V.str "late"]) np
        have hp : upd H2 p (.lst [V.str "late", V.str "mend", V.str "late"]) p = some (.lst [V.str "late", V.str "mend", V.str "late"]) := upd_same
        have qb : p ≠ b := (G2.box.ne np).symm
        have G3 := G2.same s3
        have kw3 := kw2.trans (Kw.sm s3)
        generalize upd H2 p (.lst [V.str "late", V.str "mend", V.str "late"]) = H3 at s3 hp G3 kw3 ⊢
        refine ⟨_, rfl, b, _, rfl, G3.box, by decide, by decide, fun H4 r4 k4 h4 => ?_⟩
        obtain ⟨mk, emk, rmk, fmk, wmk⟩ := marks3 (r := r4) (by omega)
        have G4 := G3.kp k4
        have kw4 := kw3.trans (Kw.of k4)
        refine ⟨p, _, _, _, rfl, rfl, SqL.of (k4.keep _ _ qb hp), atI_nat emk, ?_⟩
        refine ⟨_, rfl, _, rfl, _, rfl, _, rfl, _, rfl, b, wd, kp, dp + 1, lt, W, L, ks, ⟨rfl, G4, kw4.lst G0 hk, lk0, hd4, dp4, w100⟩, fun H5 l1 zs1 m1 kw5' G5 le1 nl1 hl1 rz1 lz1 hz1 gz1 => ⟨_, _, rfl, nx_mk ?_⟩⟩
        have kw5 := kw4.trans kw5'
        have le1 : m1 ≤ W.left := le1
        -- the rows behind
        refine seq_cut (t := tAsg _ _) (fun σ' H' => ∃ (l2 : Addr) (zs2 : List Str) (m2 : Nat), σ' = [some (.ref b), some (.ref wd), some (.int ((dp + 1 : Nat) : Int)), some (.bl lt), some (.ref kp), some (.int (r1 : Int)), none, some (.str mk), some (.ref l1), some (.ref l2), none, none, none, none, none] ∧ Kw b wd H5 H' ∧ Gs H' b wd { W with left := m2 } L ∧ m2 ≤ m1 ∧ H5 l2 = none ∧ H' l2 = some (.lst (zs2.map V.str)) ∧ (∀ z ∈ zs2, Rw 30 z) ∧ zs2.length ≤ 3 * (0 + (m1 - m2)) ∧ hc zs2 ≤ 0 + (m1 - m2) ∧ ∃ lt2 : Bool, (lt = true → lt2 = true) ∧ (mk = "late" → lt2 = true) ∧ Good W.sort lt2 ks (dp + 1) L.k L.j zs2) (fun N2 hN2 => ?_) ?_
        · have go : ∀ lt2 : Bool, (lt = true → lt2 = true) → (mk = "late" → lt2 = true) → spRws d ([V.ref b, .ref wd, .int ((dp + 1 : Nat) : Int), .bl lt2, .ref kp]) H5 (fun v H' => N2 [some (.ref b), some (.ref wd), some (.int ((dp + 1 : Nat) : Int)), some (.bl lt), some (.ref kp), some (.int (r1 : Int)), none, some (.str mk), some (.ref l1), some v, none, none, none, none, none] H') E0 := fun lt2 c1 c2 =>
            ⟨b, wd, kp, dp + 1, lt2, { W with left := m1 }, L, ks, ⟨rfl, G5, kw5.lst G0 hk, lk0, hd4, dp4, (show m1 ≤ 100 by omega)⟩, fun H6 l zs left' kw G le nl hl rz lz hz gz => hN2 _ _ ⟨l, zs, left', rfl, kw, G, le, nl, hl, rz, lz, hz, lt2, c1, c2, gz⟩⟩
          refine ⟨_, rfl, _, rfl, _, rfl, _, rfl, _, rfl, ?_⟩
          cases lt with
          | true => exact ⟨_, rfl, go true (fun _ => rfl) (fun _ => rfl)⟩
          | false => exact ⟨_, rfl, rfl, _, rfl, go _ (fun q => by cases q) (fun q => decide_eq_true (congrArg V.str q))⟩
        rintro σ2 H6 ⟨l2, zs2, m2, rfl, kw6', G6, le2, nl2, hl2, rz2, lz2, hz2, lt2, c1, c2, gz2⟩
        have kw6 := kw5.trans kw6'
        have hl1' := kw6'.lst G5 hl1
        refine ⟨by show 1 ≤ sizeLine; decide, fun q1 nq1 => ⟨_, rfl, ?_⟩⟩
        have t1 := same_new (o := .lst [V.str "guard"]) nq1
        have hq1 : upd H6 q1 (.lst [V.str "guard"]) q1 = some (.lst [V.str "guard"]) := upd_same
        have hl1' := t1 _ _ hl1'
        have hl2 := t1 _ _ hl2
        have G7 := G6.same t1
        have kw7 := kw6.trans (Kw.sm t1)
        generalize upd H6 q1 (.lst [V.str "guard"]) = H7 at hq1 hl1' hl2 G7 kw7 ⊢
        clear t1
        refine ⟨q1, l1, _, _, rfl, rfl, hq1, hl1', by rw [List.length_map, sizeLine_eq]; show 1 + _ ≤ _; omega, fun q2 nq2 => ?_⟩
        have t2 := same_new (o := .lst ([V.str "guard"] ++ zs1.map V.str)) nq2
        have hq2 : upd H7 q2 (.lst ([V.str "guard"] ++ zs1.map V.str)) q2 = some (.lst ((("guard" : Str) :: zs1).map V.str)) := upd_same
        have hl2 := t2 _ _ hl2
        have G8 := G7.same t2
        have kw8 := kw7.trans (Kw.sm t2)
        generalize upd H7 q2 (.lst ([V.str "guard"] ++ zs1.map V.str)) = H8 at hq2 hl2 G8 kw8 ⊢
        clear t2
        refine ⟨_, rfl, by show 1 ≤ sizeLine; decide, fun q3 nq3 => ?_⟩
        have t3 := same_new (o := .lst [V.str mk]) nq3
        have hq3 : upd H8 q3 (.lst [V.str mk]) q3 = some (.lst [V.str mk]) := upd_same
        have hq2 := t3 _ _ hq2
        have hl2 := t3 _ _ hl2
        have G9 := G8.same t3
        have kw9 := kw8.trans (Kw.sm t3)
        generalize upd H8 q3 (.lst [V.str mk]) = H9 at hq2 hq3 hl2 G9 kw9 ⊢
        clear t3
        refine ⟨q2, q3, _, _, rfl, rfl, hq2, hq3, by rw [List.length_map, List.length_cons, sizeLine_eq]; show zs1.length + 1 + 1 ≤ _; omega, fun q4 nq4 => ?_⟩
        have t4 := same_new (o := .lst ((("guard" : Str) :: zs1).map V.str ++ [V.str mk])) nq4
        have hq4 : upd H9 q4 (.lst ((("guard" : Str) :: zs1).map V.str ++ [V.str mk])) q4 = some (.lst ((("guard" : Str) :: zs1 ++ [mk]).map V.str)) := by rw [upd_same, List.map_append]; rfl
        have hl2 := t4 _ _ hl2
        have Ga := G9.same t4
        have kwa := kw9.trans (Kw.sm t4)
        generalize upd H9 q4 (.lst ((("guard" : Str) :: zs1).map V.str ++ [V.str mk])) = Ha at hq4 hl2 Ga kwa ⊢
        clear t4
        refine ⟨_, rfl, q4, l2, _, _, rfl, rfl, hq4, hl2, by rw [List.length_map, List.length_map, List.length_append, List.length_cons, sizeLine_eq]; show zs1.length + 1 + 1 + _ ≤ _; omega, fun q5 nq5 => ?_⟩
        have t5 := same_new (o := .lst ((("guard" : Str) :: zs1 ++ [mk]).map V.str ++ zs2.map V.str)) nq5
        have hq5 : upd Ha q5 (.lst ((("guard" : Str) :: zs1 ++ [mk]).map V.str ++ zs2.map V.str)) q5 = some (.lst ((("guard" : Str) :: zs1 ++ [mk] ++ zs2).map V.str)) := by rw [upd_same, ← List.map_append]
        have Gb := Ga.same t5
        have kwb := kwa.trans (Kw.sm t5)
        generalize upd Ha q5 (.lst ((("guard" : Str) :: zs1 ++ [mk]).map V.str ++ zs2.map V.str)) = Hb at hq5 Gb kwb ⊢
        clear t5
        refine ⟨by show 1 ≤ sizeLine; decide, fun q6 nq6 => ?_⟩
        have t6 := same_new (o := .lst [V.str "end"]) nq6
        have hq6 : upd Hb q6 (.lst [V.str "end"]) q6 = some (.lst [V.str "end"]) := upd_same
        have hq5 := t6 _ _ hq5
        have Gc := Gb.same t6
        have kwc := kwb.trans (Kw.sm t6)
        generalize upd Hb q6 (.lst [V.str "end"]) = Hc at hq5 hq6 Gc kwc ⊢
        clear t6
        have len5 : (("guard" : Str) :: zs1 ++ [mk] ++ zs2).length = zs1.length + zs2.length + 2 := by
          rw [List.length_append, List.length_append, List.length_cons]
          show zs1.length + 1 + 1 + zs2.length = _
          omega
        refine ⟨q5, q6, _, _, rfl, rfl, hq5, hq6, by rw [List.length_map, len5, sizeLine_eq]; show _ + 2 + 1 ≤ _; omega, fun q7 nq7 => ?_⟩
        refine k _ q7 ((("guard" : Str) :: zs1 ++ [mk] ++ zs2) ++ [("end" : Str)]) m2 (kwc.trans (Kw.sm (same_new nq7))) (Gc.same (same_new nq7)) (Nat.le_trans le2 le1) (kwc.free Gc nq7).1 (by rw [upd_same, List.map_append (l₂ := [("end" : Str)])]; rfl) (fun y hy => ?_) ?_ ?_ (good_guard wmk c1 c2 (by omega) gz1 gz2)
        · rcases List.mem_append.mp hy with q | q
          · rcases List.mem_append.mp q with q | q
            · rcases List.mem_append.mp q with q | q
              · rcases List.mem_cons.mp q with q | q
                · rw [q]; exact rw_of (by decide +kernel)
                · exact rz1 y q
              · rw [List.mem_singleton.mp q]; exact rmk
            · exact rz2 y q
          · rw [List.mem_singleton.mp q]; exact rw_of (by decide +kernel)
        · rw [List.length_append, len5]
          have : ([("end" : Str)] : List Str).length = 1 := rfl
          omega
        · rw [hc_end, hc_app, hc_app, hc_fix (show fixL.contains "guard" = true by decide +kernel), hc_fix fmk, hc_nil]
          omega
    rintro σ0 H2 ⟨rfl, s2, k0⟩
    have G2 := G1.same s2
    have kw2 : Kw b wd H H2 := kw1.trans (Kw.sm s2)
    -- the walk
    refine ⟨_, rfl, _, rfl, wd, _, rfl, get_known G2, b, _, L.k, rfl, G2.box, G2.k.at_, k0, by have := G2.k.few; omega, fun H3 wk k3 hwk => nx_of (nx_mk ?_)⟩
    have rwk := G2.k.rw wk hwk
    have G3 := G2.kp k3
    have kw3 := kw2.trans (Kw.of k3)
    have hk3 := kw3.lst G0 hk
    -- may it be kept
    refine seq_cut (t := tAsg _ _) (fun σ' H' => ∃ mk : Bool, σ' = [some (.ref b), some (.ref wd), some (.int ((dp + 1 : Nat) : Int)), some (.bl lt), some (.ref kp), some (.int (r1 : Int)), none, none, none, none, some (.str wk), some (.bl mk), none, none, none] ∧ H' = H3 ∧ (mk = true → W.sort = "job" ∧ wk ∉ ks)) (fun N hN => ?_) ?_
    · refine ⟨_, rfl, wd, _, rfl, get_sort G3, rfl, ?_⟩
      cases cj : decide (V.str W.sort = V.str "job") with
      | false => exact ⟨false, rfl, nx_of (hN _ _ ⟨false, rfl, rfl, fun q => by cases q⟩)⟩
      | true => exact ⟨true, rfl, _, rfl, _, rfl, kp, _, rfl, .inl (SqL.of hk3), rfl, flat_str ks, nx_of (hN _ _ ⟨_, rfl, rfl, fun q => ⟨V.str.inj (of_decide_eq_true cj), not_inV q⟩⟩)⟩
    rintro σ0 H3 ⟨mk, rfl, rfl, wmk⟩
    -- the ways to leave it
    refine seq_cut (t := tAsg _ _) (fun σ' H' => ∃ (ah : Addr) (hs : List Str), σ' = [some (.ref b), some (.ref wd), some (.int ((dp + 1 : Nat) : Int)), some (.bl lt), some (.ref kp), some (.int (r1 : Int)), none, none, none, none, some (.str wk), some (.bl mk), some (.ref ah), none, none] ∧ Same H3 H' ∧ H' ah = some (.lst (hs.map V.str)) ∧ (∀ z ∈ hs, Rw 7 z) ∧ 0 < hs.length ∧ hs.length ≤ 7 ∧ ∀ z ∈ hs, z = "closed" ∨ z = "dropped" ∨ (z = "kept" ∧ mk = true)) (fun N hN => ?_) ?_
    · refine ⟨by show 4 ≤ sizeLine; decide, fun p1 np1 => ⟨by show 1 ≤ sizeLine; decide, fun p2 np2 => ⟨_, rfl, .inr ⟨_, rfl, ?_⟩⟩⟩⟩
      refine ⟨_, _, rfl, rfl, .inl ⟨by decide, by decide⟩, ?_⟩
      obtain ⟨n, en, hn, n0⟩ : ∃ n : Nat, (3 : Int) * (if mk = true then 1 else 0) = (n : Int) ∧ n ≤ 3 ∧ (0 < n → mk = true) := by
        cases mk
        · exact ⟨0, rfl, by decide, fun q => absurd q (by decide)⟩
        · exact ⟨3, rfl, by decide, fun _ => rfl⟩
      dsimp only
      rw [en]
      have t1 := same_new (o := .lst [V.str "closed", V.str "dropped", V.str "closed", V.str "dropped"]) np1
      have t2 := same_new (o := .lst [V.str "kept"]) np2
      have hp1 := t2 _ _ (upd_same (H := H3) (a := p1) (o := .lst [V.str "closed", V.str "dropped", V.str "closed", V.str "dropped"]))
      have hp2 : upd (upd H3 p1 (.lst [V.str "closed", V.str "dropped", V.str "closed", V.str "dropped"])) p2 (.lst [V.str "kept"]) p2 = some (.lst [V.str "kept"]) := upd_same
      have t12 := t1.trans t2
      generalize upd (upd H3 p1 (.lst [V.str "closed", V.str "dropped", V.str "closed", V.str "dropped"])) p2 (.lst [V.str "kept"]) = H4 at t12 hp1 hp2 ⊢
      clear t1 t2
      refine ⟨p2, _, _, rfl, rfl, hp2, by omega, by omega, by rw [sizeLine_eq, Int.toNat_natCast]; show 1 * n ≤ _; omega, fun p3 np3 => ?_⟩
      have ef : (List.replicate (n : Int).toNat [V.str "kept"]).flatten = (List.replicate n ("kept" : Str)).map V.str := by
        rw [Int.toNat_natCast]
        clear en n0
        induction n with
        | zero => rfl
        | succ n ih =>
          rw [List.replicate_succ, List.replicate_succ, List.flatten_cons, ih (by omega)]
          rfl
      rw [ef]
      generalize hps : List.replicate n ("kept" : Str) = ps
      have lps : ps.length ≤ 3 := by rw [← hps, List.length_replicate]; exact hn
      have mps : ∀ z ∈ ps, Rw 7 z := fun z hz => by
        rw [← hps] at hz
        rw [List.eq_of_mem_replicate hz]
        exact rw_of (by decide +kernel)
      have kps : ∀ z ∈ ps, z = "kept" ∧ mk = true := fun z hz => by
        rw [← hps] at hz
        refine ⟨List.eq_of_mem_replicate hz, n0 ?_⟩
        cases n with
        | zero => cases hz
        | succ n => exact Nat.succ_pos n
      have t3 := same_new (o := .lst (ps.map V.str)) np3
      refine ⟨p1, p3, _, _, rfl, rfl, t3 _ _ hp1, upd_same, by rw [List.length_map, sizeLine_eq]; show 4 + _ ≤ _; omega, fun p4 np4 => nx_of (hN _ _ ?_)⟩
      refine ⟨p4, [("closed" : Str), "dropped", "closed", "dropped"] ++ ps, rfl, (t12.trans t3).trans (same_new np4), by rw [upd_same, List.map_append]; rfl, fun z hz => ?_, by rw [List.length_append]; show 0 < 4 + _; omega, by rw [List.length_append]; show 4 + _ ≤ 7; omega, fun z hz => ?_⟩
      rcases List.mem_append.mp hz with q | q
      · exact rw_all (n := 7) (by decide +kernel) z q
      · exact mps z q
      · rcases List.mem_append.mp hz with q | q
        · rcases List.mem_cons.mp q with q | q
          · exact .inl q
          rcases List.mem_cons.mp q with q | q
          · exact .inr (.inl q)
          rcases List.mem_cons.mp q with q | q
          · exact .inl q
          · exact .inr (.inl (List.mem_singleton.mp q))
        · exact .inr (.inr (kps z q))
    rintro σ0 H4 ⟨ah, hs, rfl, s4, hh4, rh4, lh0, lh7, kh4⟩
    have G4 := G3.same s4
    have kw4 := kw3.trans (Kw.sm s4)
    -- how, how often
    refine seq_cut (t := tPar _ _ _) (fun σ' H' => ∃ (how tm : Str), σ' = [some (.ref b), some (.ref wd), some (.int ((dp + 1 : Nat) : Int)), some (.bl lt), some (.ref kp), some (.int (r1 : Int)), some (.str tm), none, none, none, some (.str wk), some (.bl mk), some (.ref ah), some (.str how), none] ∧ Kw b wd H H' ∧ Gs H' b wd W L ∧ Rw 7 how ∧ Rw 2 tm ∧ (how = "closed" ∨ how = "dropped" ∨ (how = "kept" ∧ mk = true)) ∧ (tm = "" ∨ tm = " 1" ∨ tm = " 2" ∨ tm = " 3")) (fun N hN => ?_) ?_
    · refine ⟨_, rfl, _, rfl, b, ah, hs, rfl, G4.box, hh4, lh0, by omega, fun H5 how k5 hhow => ?_⟩
      have G5 := G4.kp k5
      have kw5 := kw4.trans (Kw.of k5)
      refine ⟨by show 5 ≤ sizeLine; decide, fun p np => ?_⟩
      have s6 := same_new (o := .lst [V.str "", V.str " 1", V.str " 1", V.str " 2", V.str " 3"]) np
      have hp : upd H5 p (.lst [V.str "", V.str " 1", V.str " 1", V.str " 2", V.str " 3"]) p = some (.lst [V.str "", V.str " 1", V.str " 1", V.str " 2", V.str " 3"]) := upd_same
      have qb : p ≠ b := (G5.box.ne np).symm
      have G6 := G5.same s6
      have kw6 := kw5.trans (Kw.sm s6)
      generalize upd H5 p (.lst [V.str "", V.str " 1", V.str " 1", V.str " 2", V.str " 3"]) = H6 at hp G6 kw6 ⊢
      refine ⟨_, rfl, b, _, rfl, G6.box, by decide, by decide, fun H7 r7 k7 h7 => ?_⟩
      obtain ⟨tm, etm, rtm, ktm⟩ := ends5 (r := r7) (by omega)
      refine ⟨p, _, _, _, rfl, rfl, SqL.of (k7.keep _ _ qb hp), atI_nat etm, _, _, rfl, nx_mk (hN _ _ ?_)⟩
      exact ⟨how, tm, rfl, kw6.trans (Kw.of k7), G6.kp k7, rh4 how hhow, rtm, kh4 how hhow, ktm⟩
    rintro σ0 H5 ⟨how, tm, rfl, kw5, G5, rhow, rtm, khow, ktm⟩
    have hk5 := kw5.lst G0 hk
    -- the walks kept around
    refine seq_cut (t := tAsg _ _) (fun σ' H' => ∃ (wp : Addr) (ws : List Str), σ' = [some (.ref b), some (.ref wd), some (.int ((dp + 1 : Nat) : Int)), some (.bl lt), some (.ref kp), some (.int (r1 : Int)), some (.str tm), none, none, none, some (.str wk), some (.bl mk), some (.ref ah), some (.str how), some (.ref wp)] ∧ Same H5 H' ∧ H' wp = some (.lst (ws.map V.str)) ∧ ws.length ≤ dp + 1 ∧ (∀ z ∈ ks, z ∈ ws) ∧ (how = "kept" → wk ∈ ws)) (fun N hN => ?_) ?_
    · refine ⟨_, rfl, rfl, _, rfl, ?_⟩
      cases ck : decide (V.str how = V.str "kept") with
      | false => exact iteF ⟨_, rfl, nx_of (hN _ _ ⟨kp, ks, rfl, Same.refl _, hk5, lk0, fun z q => q, fun q => absurd (congrArg V.str q) (of_decide_eq_false ck)⟩)⟩
      | true =>
        refine iteT ⟨_, rfl, _, rfl, by show 1 ≤ sizeLine; decide, fun p np => ?_⟩
        have s6 := same_new (o := .lst [V.str wk]) np
        refine ⟨kp, p, _, _, rfl, rfl, s6 _ _ hk5, upd_same, by rw [List.length_map, sizeLine_eq]; show _ + 1 ≤ _; omega, fun q nq => nx_of (hN _ _ ?_)⟩
        exact ⟨q, ks ++ [wk], rfl, s6.trans (same_new nq), by rw [upd_same, List.map_append]; rfl, by rw [List.length_append]; show _ + 1 ≤ _; omega, fun z q => List.mem_append_left _ q, fun _ => List.mem_append_right _ (List.mem_singleton.mpr rfl)⟩
    rintro σ0 H6 ⟨wp, ws, rfl, s6, hw6, lw6, iw6, kw6'⟩
    have G6 := G5.same s6
    have kw6 := kw5.trans (Kw.sm s6)
    have re : Rw 5 "each " := rw_of (by decide +kernel)
    have r1s : Rw 1 " " := rw_of (by decide +kernel)
    have x1 := re.app rwk
    have x2 := x1.app r1s
    have x3 := x2.app rhow
    have x4 := x3.app rtm
    have f1 := x1.len
    have f2 := x2.len
    have f3 := x3.len
    have f4 := x4.len
    rw [Str.length_append] at f1 f2 f3 f4
    refine ⟨_, rfl, _, _, rfl, rfl, by rw [sizeLine_eq]; omega, _, _, rfl, rfl, by rw [sizeLine_eq]; omega, _, rfl, _, _, rfl, rfl, by rw [sizeLine_eq]; omega, _, rfl, _, _, rfl, rfl, by rw [sizeLine_eq]; omega, by show 1 ≤ sizeLine; decide, fun p1 np1 => ?_⟩
    have s7 := same_new (o := .lst [V.str (("each " : Str) ++ wk ++ " " ++ how ++ tm)]) np1
    have hp1 : upd H6 p1 (.lst [V.str (("each " : Str) ++ wk ++ " " ++ how ++ tm)]) p1 = some (.lst [V.str (("each " : Str) ++ wk ++ " " ++ how ++ tm)]) := upd_same
    have G7 := G6.same s7
    have kw7 := kw6.trans (Kw.sm s7)
    have hw7 := s7 _ _ hw6
    dsimp only
    generalize upd H6 p1 (.lst [V.str (("each " : Str) ++ wk ++ " " ++ how ++ tm)]) = H7 at s7 hp1 G7 kw7 hw7 ⊢
    refine ⟨_, rfl, _, rfl, _, rfl, _, rfl, _, rfl, b, wd, wp, dp + 1, lt, W, L, ws, ⟨rfl, G7, hw7, lw6, hd4, dp4, w100⟩, fun H8 l zs left' kw G le nl hl rz lz hz gz => ?_⟩
    exact close _ H7 H8 p1 l zs left' kw7 G7 hp1 kw G le nl hl rz lz hz (x4.wider (by decide)) (good_each hwk (G2.k.nm wk hwk) (khow.imp id fun q => q.imp id fun q => q.1) ktm (fun q => ⟨(wmk ((khow.resolve_left (by rw [q]; decide +kernel)).resolve_left (by rw [q]; decide +kernel)).2).1, (wmk ((khow.resolve_left (by rw [q]; decide +kernel)).resolve_left (by rw [q]; decide +kernel)).2).2, kw6' q⟩) iw6 (by omega) gz)
end
end Ly
end
section
set_option Elab.async false
set_option linter.all false
set_option maxRecDepth 100000
/-! The world that a program is drawn in. -/
namespace Ly
open PySem PySem.Spec PyProof.Rows L2
def wk5 (W : Wv) : List (L2.Key × V) := [(.inr "jobs", .ref W.aj), (.inr "sort", .str W.sort), (.inr "left", .int (W.left : Int)), (.inr "deep", .int 4), (.inr "known", .ref W.ak)]
def wk6 (W : Wv) : List (L2.Key × V) := wk5 W ++ [(.inr "walks", .ref W.aw)]
def wk7 (W : Wv) : List (L2.Key × V) := wk6 W ++ [(.inr "gates", .ref W.ag)]
theorem wk_disp (W : Wv) : mergeK [] (wk5 W) = wk5 W := by kernel_rfl
theorem wk_6 (W : Wv) : putK (wk5 W) (Sum.inr "walks" : L2.Key) (.ref W.aw) = wk6 W := by kernel_rfl
theorem wk_7 (W : Wv) : putK (wk6 W) (Sum.inr "gates" : L2.Key) (.ref W.ag) = wk7 W := by kernel_rfl
theorem wk_8 (W : Wv) : putK (wk7 W) (Sum.inr "notes" : L2.Key) (.ref W.an) = wkv W := by kernel_rfl
section
variable {P : Program} {w : World} {K : PySem.W.Frag} {mg : Str → Option Value} {base : Heap}
def spWorld : Sp := fun vs H Q _ => ∃ (b : Addr) (jn wn : Nat), vs = [.ref b, .int (jn : Int), .int (wn : Int)] ∧ BoxAt H b ∧ 0 < jn ∧ jn ≤ 6 ∧ wn ≤ 6 ∧
  ∀ (H' : Hp) (wd : Addr) (W : Wv) (L : Lsts), BKp b H H' → H wd = none → Gs H' b wd W L → W.left = 0 → L.k = [] → L.j.length ≤ jn → L.w.length ≤ wn → L.j.Nodup → L.w.Nodup → ("main" : Str) ∈ L.j → Q (.ref wd) H'
def worldN : List Str := ["_law_box_here", "_law_jobs", "_law_walks", "_law_others", "_law_name", "_law_world_here"]
theorem sc_world : FnScope worldN ["_law_box_here", "_law_jobs", "_law_walks"] (defScope t_law_world) := ⟨rfl, rfl, rfl, by decide +kernel, rfl, by decide +kernel, by decide +kernel⟩
theorem BKp.new {b l : Addr} {H H1 : Hp} {o : HO} (x : BKp b H H1) (n : H1 l = none) : BKp b H (upd H1 l o) := x.same (same_new n)
theorem BKp.free {b l : Addr} {H H1 : Hp} (x : BKp b H H1) (n : H1 l = none) : H l = none := by
  have h1 : l ≠ b := (x.box.ne n).symm
  cases e : H l with
  | none => rfl
  | some o =>
    have := x.keep l o h1 e
    rw [n] at this
    cases this
/-- a place that was free at the start is written -/
theorem BKp.laid {b l : Addr} {H H1 : Hp} {o : HO} (x : BKp b H H1) (hb : BoxAt H b) (n : H l = none) : BKp b H (upd H1 l o) := by
  obtain ⟨c, s, m, e⟩ := x.box
  exact ⟨⟨c, s, m, by rw [upd_ne (hb.ne n)]; exact e⟩, fun p o' np hp => by rw [upd_ne (ne_of_none hp n)]; exact x.keep p o' np hp⟩
theorem ok_world {f ft fm : Addr} {fd dt dm : FuncData} (F : Fun K "_law_world" "_law_world" t_law_world f fd) (B : Bt mg) (GT : FnOk P w K mg base CX0 1 ft dt ["_law_box_here", "_law_many"] spDraw) (aT : mg "_law_take" = some (.ref ft)) (kT : PySem.W.keepIn K (.ref ft) = true) (bT : Binds K dt ["_law_box_here", "_law_many"] [])
    (GN : FnOk P w K mg base CX0 3 fm dm ["_law_box_here", "_law_many"] spName8) (aN : mg "_law_names" = some (.ref fm)) (kN : PySem.W.keepIn K (.ref fm) = true) (bN : Binds K dm ["_law_box_here", "_law_many"] []) :
    FnOk P w K mg base CX0 4 f fd ["_law_box_here", "_law_jobs", "_law_walks"] spWorld := by
  refine F.ok sc_world (fun vs H Q E h => ?_) (fun cdv A outer s H vs Q E hr h => ?_)
  · obtain ⟨b, jn, wn, rfl, _⟩ := h
    rfl
  · obtain ⟨b, jn, wn, rfl, hb, j1, j6, w6, k⟩ := h
    have nod := sc_world.nd
    have hr1 : Room 1 (A.deeper (envOfC "_law_world" (defScope t_law_world) s.heap.objs.size f cdv)) := hr.mono (by decide)
    have hu1 := hu_of hr
    refine ⟨_, pss_cons (ps_setLc (i := 3) (own := [("_law_name", 4)]) (g := gName 4) (te := tVar 4) (by rfl) nod rfl rfl (sw_true rfl rfl rfl (by decide +kernel)) (pi_list (pe_call GN hr rfl aN kN bN .nil pass0 (pa_cons (pv 0) (pa_cons pe_int pa_nil)))) (blkOk_by (own := [("_law_name", 4)]) (N := worldN) (sc := defScope t_law_world) (by decide +kernel)) (fun _ _ _ _ _ => pg_name (i := 4) nod rfl (Or.inl rfl))
        (fun _ _ _ _ _ => pts_one (pt_cmpR op_ne (pv 4) pe_str (by rfl))) (fun _ _ _ _ _ => pv 4))
      (pss_cons (ps_set (i := 5) nod rfl (Or.inl rfl) (pe_disp (pps_cons pe_str (pe_op op_cat (pe_lst (pa_cons pe_str pa_nil)) (pe_slice sl_list (pv 3) po_none (po_some (pe_call GT hr1 rfl aT kT bT .nil pass0 (pa_cons (pv 0) (pa_cons (pv 1) pa_nil)))))) (pps_cons pe_str pe_str (pps_cons pe_str pe_int (pps_cons pe_str pe_int (pps_cons pe_str (pe_lst pa_nil) pps_nil))))) rfl rfl (by simp) (by decide)))
      (pss_cons (ps_dput hu1 (pv 5) pe_str (pe_slice sl_list (pe_call GN hr rfl aN kN bN .nil pass0 (pa_cons (pv 0) (pa_cons pe_int pa_nil))) po_none (po_some (pe_call GT hr1 rfl aT kT bT .nil pass0 (pa_cons (pv 0) (pa_cons (pe_op op_add (pv 2) pe_int) pa_nil))))) rfl)
      (pss_cons (ps_dput hu1 (pv 5) pe_str (pe_call GN hr rfl aN kN bN .nil pass0 (pa_cons (pv 0) (pa_cons (pe_op op_add pe_int (pe_call GT hr1 rfl aT kT bT .nil pass0 (pa_cons (pv 0) (pa_cons pe_int pa_nil)))) pa_nil))) rfl)
      (pss_cons (ps_dput hu1 (pv 5) pe_str (pe_call GN hr rfl aN kN bN .nil pass0 (pa_cons (pv 0) (pa_cons (pe_op op_add pe_int (pe_call GT hr1 rfl aT kT bT .nil pass0 (pa_cons (pv 0) (pa_cons pe_int pa_nil)))) pa_nil))) rfl)
      (pss_one (ps_ret (pv 5))))))), ?_⟩
    -- the other names
    refine seq_cut (t := tAsg _ _) (fun σ' H' => ∃ (l : Addr) (zs : List Str), σ' = [some (.ref b), some (.int (jn : Int)), some (.int (wn : Int)), some (.ref l), none, none] ∧ BKp b H H' ∧ H' l = some (.lst (zs.map V.str)) ∧ (∀ z ∈ zs, isName z = true) ∧ zs.Nodup ∧ ("main" : Str) ∉ zs ∧ zs.length ≤ 7) (fun N hN => ?_) ?_
    · refine ⟨_, rfl, b, 7, rfl, hb, by decide, fun H1 l1 zs1 k1 n1 N1 => ⟨_, rfl, ⟨_, SqL.of N1.at_⟩, fun D nD => lc_list (K := K) (a := l1) (xs := zs1.map V.str) (fun i H' => H' = upd H1 D (.lst (((zs1.take i).filter fun z => !decide (V.str z = V.str "main")).map V.str))) rfl (fun i H' _ e => ?_) ?_ ?_⟩⟩
      · subst e
        exact SqL.of (by rw [upd_ne (ne_of_none N1.at_ nD)]; exact N1.at_)
      · rintro i x H4 hi rfl
        obtain ⟨y, hy, rfl⟩ : ∃ y, zs1[i]? = some y ∧ x = V.str y := by
          rw [List.getElem?_map] at hi
          cases e : zs1[i]? with
          | none => rw [e] at hi; cases hi
          | some y => rw [e] at hi; exact ⟨y, rfl, (Option.some.inj hi).symm⟩
        have l8 := N1.len
        have lf : ((zs1.take i).filter fun z => !decide (V.str z = V.str "main")).length ≤ 8 := Nat.le_trans (List.length_filter_le _ _) (by rw [List.length_take]; omega)
        have ef : (zs1.take (i + 1)).filter (fun z => !decide (V.str z = V.str "main")) = (zs1.take i).filter (fun z => !decide (V.str z = V.str "main")) ++ (if (!decide (V.str y = V.str "main")) = true then [y] else []) := by
          rw [List.take_add_one, hy, List.filter_append]
          congr 1
          show List.filter _ [y] = _
          rw [List.filter_cons]
          rfl
        refine ⟨rfl, _, rfl, rfl, _, rfl, ?_⟩
        rw [ef]
        cases (!decide (V.str y = V.str "main")) with
        | false => exact congrArg (fun l => upd H1 D (.lst (List.map V.str l))) (List.append_nil _).symm
        | true =>
          refine ⟨_, rfl, _, upd_same, ?_, ?_⟩
          · rw [List.length_map, sizeLine_eq]; omega
          · rw [upd_upd, if_pos rfl, List.map_append]; rfl
      · rintro H4 rfl
        have e8 : zs1.take (zs1.map V.str).length = zs1 := by rw [List.length_map, List.take_length]
        refine nx_of (hN _ _ ⟨D, zs1.filter fun z => !decide (V.str z = V.str "main"), rfl, k1.new nD, by rw [upd_same, e8], fun z hz => N1.nm z (List.mem_filter.mp hz).1, N1.nd.sublist (List.filter_sublist), fun hm => ?_, Nat.le_trans (List.length_filter_le _ _) (Nat.le_of_eq N1.len)⟩)
        have := (List.mem_filter.mp hm).2
        rw [decide_eq_true rfl] at this
        cases this
    rintro σ0 H1 ⟨l1, zs1, rfl, k1, hl1, nz1, dz1, mz1, lz1⟩
    -- the first five
    refine seq_cut (t := tAsg _ _) (fun σ' H' => ∃ (wd : Addr) (W : Wv) (js : List Str), σ' = [some (.ref b), some (.int (jn : Int)), some (.int (wn : Int)), some (.ref l1), none, some (.ref wd)] ∧ BKp b H H' ∧ H wd = none ∧ H' wd = some (.dK (wk5 W)) ∧ Nm H' W.aj js ∧ 0 < js.length ∧ js.length ≤ jn ∧ js.Nodup ∧ ("main" : Str) ∈ js ∧ Nm H' W.ak [] ∧ W.left = 0) (fun N hN => ?_) ?_
    · intro wd nwd
      have k2 := k1.new (o := .dK []) nwd
      have hl2 : upd H1 wd (.dK []) l1 = some (.lst (zs1.map V.str)) := by rw [upd_ne (ne_of_none hl1 nwd)]; exact hl1
      have hw2 : upd H1 wd (.dK []) wd = some (.dK []) := upd_same
      have nw0 := k1.free nwd
      generalize upd H1 wd (.dK []) = H2 at k2 hl2 hw2 ⊢
      refine ⟨by show 1 ≤ sizeLine; decide, fun p1 np1 => ?_⟩
      have t1 := same_new (o := .lst [V.str "main"]) np1
      have hp1 : upd H2 p1 (.lst [V.str "main"]) p1 = some (.lst [V.str "main"]) := upd_same
      have k3 := k2.same t1
      have hl3 := t1 _ _ hl2
      have hw3 := t1 _ _ hw2
      generalize upd H2 p1 (.lst [V.str "main"]) = H3 at t1 hp1 k3 hl3 hw3 ⊢
      clear t1
      refine ⟨_, rfl, _, rfl, _, rfl, b, (jn : Int), rfl, k3.box, by omega, by omega, fun H4 r k4 hr4 => ⟨_, rfl, l1, _, rfl, SqL.of (k4.keep _ _ (box_ne k3.box hl3) hl3), fun q nq => ?_⟩⟩
      rw [cut_pre]
      have hp4 := k4.keep _ _ (box_ne (zs := ["main"]) k3.box hp1) hp1
      have nwb : wd ≠ b := (hb.ne nw0).symm
      have hw4 := k4.keep _ _ nwb hw3
      have k4 := k3.trans k4
      have t1 := same_new (o := .lst ((zs1.take r).map V.str)) nq
      have hq : upd H4 q (.lst ((zs1.take r).map V.str)) q = some (.lst ((zs1.take r).map V.str)) := upd_same
      have hp5 := t1 _ _ hp4
      have hw5 := t1 _ _ hw4
      have k5 := k4.same t1
      generalize upd H4 q (.lst ((zs1.take r).map V.str)) = H5 at hq hp5 hw5 k5 ⊢
      clear t1
      have lt : (zs1.take r).length + 1 ≤ jn := by rw [List.length_take]; omega
      refine ⟨p1, q, _, _, rfl, rfl, hp5, hq, by rw [List.length_map, sizeLine_eq]; show 1 + _ ≤ _; omega, fun p2 np2 => ?_⟩
      have t1 := same_new (o := .lst ([V.str "main"] ++ (zs1.take r).map V.str)) np2
      have hp6 : upd H5 p2 (.lst ([V.str "main"] ++ (zs1.take r).map V.str)) p2 = some (.lst ((("main" : Str) :: zs1.take r).map V.str)) := upd_same
      have hw6 := t1 _ _ hw5
      have k6 := k5.same t1
      generalize upd H5 p2 (.lst ([V.str "main"] ++ (zs1.take r).map V.str)) = H6 at hp6 hw6 k6 ⊢
      clear t1
      refine ⟨by show 0 ≤ sizeLine; decide, fun p3 np3 => ?_⟩
      have t1 := same_new (o := .lst []) np3
      have hp7 : upd H6 p3 (.lst []) p3 = some (.lst []) := upd_same
      have hw7 := t1 _ _ hw6
      have hp6 := t1 _ _ hp6
      have k7 := k6.same t1
      generalize upd H6 p3 (.lst []) = H7 at hp6 hp7 hw7 k7 ⊢
      clear t1
      refine ⟨hw7, wk5 { aj := p2, ak := p3, aw := 0, ag := 0, an := 0, sort := "job", left := 0 }, rfl, by show 5 ≤ 15; decide, ?_⟩
      rw [wk_disp]
      have n2 : p2 ≠ wd := by rintro rfl; rw [hw7] at hp6; cases hp6
      have n3 : p3 ≠ wd := by rintro rfl; rw [hw7] at hp7; cases hp7
      refine nx_of (hN _ _ ⟨wd, _, ("main" : Str) :: zs1.take r, rfl, k7.laid hb nw0, nw0, upd_same, ⟨by rw [upd_ne n2]; exact hp6, fun z hz => ?_, by rw [List.length_cons]; omega⟩, by rw [List.length_cons]; omega, by rw [List.length_cons]; omega, List.nodup_cons.mpr ⟨fun q => mz1 (List.mem_of_mem_take q), dz1.sublist (List.take_sublist _ _)⟩, List.mem_cons_self, ⟨by rw [upd_ne n3]; exact hp7, fun z hz => (nomatch hz), by decide⟩, rfl⟩)
      rcases List.mem_cons.mp hz with q | q
      · rw [q]; decide +kernel
      · exact nz1 z (List.mem_of_mem_take q)
    rintro σ0 H2 ⟨wd, W, js, rfl, k2, nwd, hw2, J2, j0, j3, jd, jm, K2, w0⟩
    have nwb : wd ≠ b := (hb.ne nwd).symm
    have mvb : ∀ {H3 H4 : Hp} {a : Addr} {zs : List Str}, BoxAt H3 b → BKp b H3 H4 → Nm H3 a zs → Nm H4 a zs := fun hb k N => N.move (k.keep _ _ (box_ne hb N.at_) N.at_)
    have mvw : ∀ {H3 : Hp} {a : Addr} {zs : List Str} {o : HO} {kv : List (L2.Key × V)}, H3 wd = some (.dK kv) → Nm H3 a zs → Nm (upd H3 wd o) a zs := fun hw N => N.move (by rw [upd_ne (N.ne hw)]; exact N.at_)
    -- the walks
    refine seq_cut (t := sDPut _ _ _) (fun σ' H' => ∃ (aw : Addr) (ws : List Str), σ' = [some (.ref b), some (.int (jn : Int)), some (.int (wn : Int)), some (.ref l1), none, some (.ref wd)] ∧ BKp b H H' ∧ H' wd = some (.dK (wk6 { W with aw := aw })) ∧ Nm H' W.aj js ∧ Nm H' W.ak [] ∧ Nm H' aw ws ∧ ws.length ≤ wn ∧ ws.Nodup) (fun N hN => ?_) ?_
    · refine ⟨_, rfl, b, 6, rfl, k2.box, by decide, fun H3 l3 zs3 k3 n3 N3 => ?_⟩
      have hb3 := k3.box
      refine ⟨_, rfl, _, rfl, _, _, rfl, rfl, b, _, rfl, hb3, by omega, by omega, fun H4 r k4 hr4 => ⟨_, rfl, l3, _, rfl, SqL.of (k4.keep _ _ (box_ne hb3 N3.at_) N3.at_), fun q nq => ?_⟩⟩
      rw [cut_pre]
      have k34 := k3.trans k4
      have hw4 := k34.keep _ _ nwb hw2
      have J4 := mvb k2.box k34 J2
      have K4 := mvb k2.box k34 K2
      have k4 := k2.trans k34
      have hq : upd H4 q (.lst ((zs3.take r).map V.str)) q = some (.lst ((zs3.take r).map V.str)) := upd_same
      have t1 := same_new (o := .lst ((zs3.take r).map V.str)) nq
      have hw5 := t1 _ _ hw4
      have k5 := k4.same t1
      have J5 := J4.move (t1 _ _ J4.at_)
      have K5 := K4.move (t1 _ _ K4.at_)
      generalize upd H4 q (.lst ((zs3.take r).map V.str)) = H5 at hq hw5 k5 J5 K5 ⊢
      clear t1
      have lt : (zs3.take r).length ≤ wn := by rw [List.length_take]; omega
      have Q5 : Nm H5 q (zs3.take r) := ⟨hq, fun z hz => N3.nm z (List.mem_of_mem_take hz), by omega⟩
      refine ⟨_, rfl, wd, _, rfl, DPut.k (k := Sum.inr "walks") hw5 (by show 5 < sizeLine; decide), nx_mk (hN _ _ ?_)⟩
      exact ⟨q, zs3.take r, rfl, k5.laid hb nwd, by rw [upd_same]; exact congrArg (fun z => some (HO.dK z)) (wk_6 { W with aw := q }), mvw hw5 J5, mvw hw5 K5, mvw hw5 Q5, lt, N3.nd.sublist (List.take_sublist _ _)⟩
    rintro σ0 H3 ⟨aw, ws, rfl, k3, hw3, J3, K3, W3, w3, wd3⟩
    have names : ∀ (H4 : Hp) (QQ : VK), BoxAt H4 b → (∀ (H5 : Hp) (a : Addr) (zs : List Str), BKp b H4 H5 → Nm H5 a zs → 0 < zs.length → QQ (.ref a) H5) →
        (tCall spName8 [] E0 (tCons (tVar 0) (tCons (tOp rAdd (tC (.int 1)) (tCall spDraw [] E0 (tCons (tVar 0) (tCons (tC (.int 4)) tNil)))) tNil))) [some (.ref b), some (.int (jn : Int)), some (.int (wn : Int)), some (.ref l1), none, some (.ref wd)] H4 QQ := fun H4 QQ hb4 h => by
      refine ⟨_, rfl, _, rfl, b, 4, rfl, hb4, by decide, by decide, fun H5 r k5 hr5 => ?_⟩
      refine ⟨_, _, rfl, rfl, b, 1 + r, rfl, k5.box, by omega, fun H6 l zs k6 n6 N6 => h H6 l zs (k5.trans k6) ⟨N6.at_, N6.nm, by rw [N6.len]; omega⟩ (by rw [N6.len]; omega)⟩
    refine seq_cut (t := sDPut _ _ _) (fun σ' H' => ∃ (ag : Addr) (gs : List Str), σ' = [some (.ref b), some (.int (jn : Int)), some (.int (wn : Int)), some (.ref l1), none, some (.ref wd)] ∧ BKp b H H' ∧ H' wd = some (.dK (wk7 { W with aw := aw, ag := ag })) ∧ Nm H' W.aj js ∧ Nm H' W.ak [] ∧ Nm H' aw ws ∧ Nm H' ag gs ∧ 0 < gs.length) (fun N hN => ?_) ?_
    · refine names _ _ k3.box fun H4 q zs k4 N4 g0 => ?_
      have hw4 := k4.keep _ _ nwb hw3
      refine ⟨_, rfl, wd, _, rfl, DPut.k (k := Sum.inr "gates") hw4 (by show 6 < sizeLine; decide), nx_mk (hN _ _ ?_)⟩
      exact ⟨q, zs, rfl, (k3.trans k4).laid hb nwd, by rw [upd_same]; exact congrArg (fun z => some (HO.dK z)) (wk_7 { W with aw := aw, ag := q }), mvw hw4 (mvb k3.box k4 J3), mvw hw4 (mvb k3.box k4 K3), mvw hw4 (mvb k3.box k4 W3), mvw hw4 N4, g0⟩
    rintro σ0 H4 ⟨ag, gs, rfl, k4, hw4, J4, K4, W4, G4, g0⟩
    refine seq_cut (t := sDPut _ _ _) (fun σ' H' => ∃ (an : Addr) (ns : List Str), σ' = [some (.ref b), some (.int (jn : Int)), some (.int (wn : Int)), some (.ref l1), none, some (.ref wd)] ∧ BKp b H H' ∧ H' wd = some (.dK (wkv { W with aw := aw, ag := ag, an := an })) ∧ Nm H' W.aj js ∧ Nm H' W.ak [] ∧ Nm H' aw ws ∧ Nm H' ag gs ∧ Nm H' an ns ∧ 0 < ns.length) (fun N hN => ?_) ?_
    · refine names _ _ k4.box fun H5 q zs k5 N5 n0 => ?_
      have hw5 := k5.keep _ _ nwb hw4
      refine ⟨_, rfl, wd, _, rfl, DPut.k (k := Sum.inr "notes") hw5 (by show 7 < sizeLine; decide), nx_mk (hN _ _ ?_)⟩
      exact ⟨q, zs, rfl, (k4.trans k5).laid hb nwd, by rw [upd_same]; exact congrArg (fun z => some (HO.dK z)) (wk_8 { W with aw := aw, ag := ag, an := q }), mvw hw5 (mvb k4.box k5 J4), mvw hw5 (mvb k4.box k5 K4), mvw hw5 (mvb k4.box k5 W4), mvw hw5 (mvb k4.box k5 G4), mvw hw5 N5, n0⟩
    rintro σ0 H5 ⟨an, ns, rfl, k5, hw5, J5, K5, W5, G5, N5, n0⟩
    refine ⟨_, rfl, k H5 wd { W with aw := aw, ag := ag, an := an } ⟨js, [], ws, gs, ns⟩ k5 nwd ⟨k5.box, hw5, J5, K5, W5, G5, N5, j0, g0, n0⟩ w0 rfl j3 w3 jd wd3 jm⟩
end
end Ly
end
section
set_option Elab.async false
set_option linter.all false
set_option maxRecDepth 100000
/-! A program of drawn rows. -/
namespace Ly
open PySem PySem.Spec PyProof.Rows L2
/-- none of the world's lists -/
structure Off (W : Wv) (l : Addr) : Prop where
  j : W.aj ≠ l
  k : W.ak ≠ l
  w : W.aw ≠ l
  g : W.ag ≠ l
  n : W.an ≠ l
theorem Nm.unfree {H : Hp} {a l : Addr} {zs : List Str} (N : Nm H a zs) (n : H l = none) : a ≠ l := ne_of_none N.at_ n
theorem Gs.offs {H : Hp} {b wd l : Addr} {W : Wv} {L : Lsts} (G : Gs H b wd W L) (n : H l = none) : Off W l := ⟨G.j.unfree n, G.k.unfree n, G.w.unfree n, G.g.unfree n, G.n.unfree n⟩
theorem Gs.off {H : Hp} {b wd l : Addr} {W : Wv} {L : Lsts} {o : HO} (G : Gs H b wd W L) (f : Off W l) (nb : l ≠ b) (nw : l ≠ wd) : Gs (upd H l o) b wd W L := by
  have mv : ∀ {a : Addr} {zs : List Str}, a ≠ l → Nm H a zs → Nm (upd H l o) a zs := fun h N => N.move (by rw [upd_ne h]; exact N.at_)
  obtain ⟨c, s, m, e⟩ := G.box
  exact ⟨⟨c, s, m, by rw [upd_ne nb.symm]; exact e⟩, by rw [upd_ne nw.symm]; exact G.at_, mv f.j G.j, mv f.k G.k, mv f.w G.w, mv f.g G.g, mv f.n G.n, G.j0, G.g0, G.n0⟩
theorem put_sort (W : Wv) (z : Str) : putK (wkv W) (Sum.inr "sort" : L2.Key) (.str z) = wkv { W with sort := z } := by kernel_rfl
theorem put_known (W : Wv) (q : Addr) : putK (wkv W) (Sum.inr "known" : L2.Key) (.ref q) = wkv { W with ak := q } := by kernel_rfl
theorem Gs.setSort {H : Hp} {b wd : Addr} {W : Wv} {L : Lsts} (G : Gs H b wd W L) (z : Str) : Gs (upd H wd (.dK (wkv { W with sort := z }))) b wd { W with sort := z } L := by
  have mv : ∀ {a : Addr} {zs : List Str}, Nm H a zs → Nm (upd H wd (.dK (wkv { W with sort := z }))) a zs := fun N => N.move (by rw [upd_ne (N.ne G.at_)]; exact N.at_)
  obtain ⟨c, s, m, e⟩ := G.box
  exact ⟨⟨c, s, m, by rw [upd_ne G.bw.symm]; exact e⟩, upd_same, mv G.j, mv G.k, mv G.w, mv G.g, mv G.n, G.j0, G.g0, G.n0⟩
theorem Gs.setKnown {H : Hp} {b wd q : Addr} {W : Wv} {L : Lsts} {ks : List Str} (G : Gs H b wd W L) (N : Nm H q ks) : Gs (upd H wd (.dK (wkv { W with ak := q }))) b wd { W with ak := q } { L with k := ks } := by
  have mv : ∀ {a : Addr} {zs : List Str}, Nm H a zs → Nm (upd H wd (.dK (wkv { W with ak := q }))) a zs := fun N => N.move (by rw [upd_ne (N.ne G.at_)]; exact N.at_)
  obtain ⟨c, s, m, e⟩ := G.box
  exact ⟨⟨c, s, m, by rw [upd_ne G.bw.symm]; exact e⟩, upd_same, mv G.j, mv N, mv G.w, mv G.g, mv G.n, G.j0, G.g0, G.n0⟩
/-- the two lists of names to be drawn from -/
def nkv (pj pw : Addr) : List (L2.Key × V) := [(.inr "job", .ref pj), (.inr "walk", .ref pw)]
theorem nk_disp (pj pw : Addr) : mergeK [] (nkv pj pw) = nkv pj pw := by kernel_rfl
theorem get_nj {H : Hp} {nd pj pw : Addr} (h : H nd = some (.dK (nkv pj pw))) : DGet H nd (.str "job") (some (.ref pj)) := by
  have e : valV (nkv pj pw) (Sum.inr "job" : L2.Key) = some (V.ref pj) := by kernel_rfl
  rw [← e]
  exact DGet.k (k := Sum.inr "job") h
theorem get_nw {H : Hp} {nd pj pw : Addr} (h : H nd = some (.dK (nkv pj pw))) : DGet H nd (.str "walk") (some (.ref pw)) := by
  have e : valV (nkv pj pw) (Sum.inr "walk" : L2.Key) = some (V.ref pw) := by kernel_rfl
  rw [← e]
  exact DGet.k (k := Sum.inr "walk") h
theorem rep_map (z : Str) (n : Nat) : (List.replicate (n : Int).toNat [V.str z]).flatten = (List.replicate n z).map V.str := by
  rw [Int.toNat_natCast]
  induction n with
  | zero => rfl
  | succ n ih =>
    rw [List.replicate_succ, List.replicate_succ, List.flatten_cons, ih]
    rfl
theorem last_at {zs : List Str} (h : 0 < zs.length) : (zs.map V.str)[(zs.map V.str).length - 1]? = some (V.str (zs[zs.length - 1]'(by omega))) := by
  rw [List.getElem?_map, List.length_map, List.getElem?_eq_getElem (by omega)]
  rfl
theorem drop_last {zs : List Str} (h : 0 < zs.length) : zs.dropLast ++ [zs[zs.length - 1]'(by omega)] = zs := by
  have hne : zs ≠ [] := fun e => by rw [e] at h; cases h
  have := List.dropLast_concat_getLast hne
  rw [List.getLast_eq_getElem] at this
  exact this
theorem count_drop {ss : List Str} {i : Nat} {z y : Str} (h : ss[i]? = some z) : (ss.drop i).count y = (if z = y then 1 else 0) + (ss.drop (i + 1)).count y := by
  obtain ⟨hi, e⟩ := List.getElem?_eq_some_iff.mp h
  rw [List.drop_eq_getElem_cons hi, e, List.count_cons]
  by_cases c : z = y
  · rw [if_pos c, if_pos (by rw [c]; exact beq_self_eq_true _)]; omega
  · rw [if_neg c, if_neg (by simpa using c)]; omega
/-- where the lists of the program stand -/
structure Cs (H : Hp) (b wd ps nd fo pj pw : Addr) : Prop where
  ns : H ps = none
  nn : H nd = none
  nf : H fo = none
  nj : H pj = none
  nw : H pw = none
  sf : ps ≠ fo
  sj : ps ≠ pj
  sw : ps ≠ pw
  jw : pj ≠ pw
  jf : pj ≠ fo
  wf : pw ≠ fo
theorem Gs.fresh {H : Hp} {b wd p : Addr} {W : Wv} {L : Lsts} (G : Gs H b wd W L) (n : H p = none) : p ≠ b ∧ p ≠ wd := ⟨(G.box.ne n).symm, (ne_of_none G.at_ n).symm⟩
structure PI (H H' : Hp) (b wd ps nd fo pj pw : Addr) (ss rem : List Str) (c e n : Nat) (W : Wv) (L : Lsts) (js ws rows : List Str) : Prop where
  kw : Kw b wd H H'
  G : Gs H' b wd W L
  kn : L.k.length ≤ n
  hs : H' ps = some (.lst (ss.map V.str))
  hn : H' nd = some (.dK (nkv pj pw))
  hj : H' pj = some (.lst (js.map V.str))
  hw : H' pw = some (.lst (ws.map V.str))
  hf : H' fo = some (.lst (rows.map V.str))
  cj : rem.count ("job" : Str) = js.length
  cw : rem.count ("walk" : Str) = ws.length
  rj : ∀ z ∈ js, isName z = true
  rw_ : ∀ z ∈ ws, isName z = true
  rr : ∀ z ∈ rows, Rw 30 z
  lr : rows.length ≤ c * n
  hr : hc rows ≤ e * n
  oj : Off W pj
  ow : Off W pw
  of : Off W fo
section
variable {H H' H'' : Hp} {b wd ps nd fo pj pw : Addr} {ss rem : List Str} {c e n : Nat} {W W0 W2 : Wv} {L L0 L2 : Lsts} {js ws rows : List Str}
theorem PI.move (C : Cs H b wd ps nd fo pj pw) (G0 : Gs H b wd W0 L0) (p : PI H H' b wd ps nd fo pj pw ss rem c e n W L js ws rows) (k : Kw b wd H' H'') (G : Gs H'' b wd W2 L2) (kn : L2.k.length ≤ n) (oj : Off W2 pj) (ow : Off W2 pw) (of : Off W2 fo) :
    PI H H'' b wd ps nd fo pj pw ss rem c e n W2 L2 js ws rows :=
  have f := fun {x : Addr} (q : H x = none) => G0.fresh q
  ⟨p.kw.trans k, G, kn, k _ _ (f C.ns).1 (f C.ns).2 p.hs, k _ _ (f C.nn).1 (f C.nn).2 p.hn, k _ _ (f C.nj).1 (f C.nj).2 p.hj, k _ _ (f C.nw).1 (f C.nw).2 p.hw, k _ _ (f C.nf).1 (f C.nf).2 p.hf, p.cj, p.cw, p.rj, p.rw_, p.rr, p.lr, p.hr, oj, ow, of⟩
theorem PI.same (C : Cs H b wd ps nd fo pj pw) (G0 : Gs H b wd W0 L0) (p : PI H H' b wd ps nd fo pj pw ss rem c e n W L js ws rows) (s : Same H' H'') : PI H H'' b wd ps nd fo pj pw ss rem c e n W L js ws rows :=
  p.move C G0 (Kw.sm s) (p.G.same s) p.kn p.oj p.ow p.of
/-- another new list is written -/
theorem PI.aside (C : Cs H b wd ps nd fo pj pw) (G0 : Gs H b wd W0 L0) (p : PI H H' b wd ps nd fo pj pw ss rem c e n W L js ws rows) {x : Addr} {o : HO} (nx : H x = none) (ox : Off W x) (n1 : ps ≠ x) (n2 : nd ≠ x) (n3 : fo ≠ x) (n4 : pj ≠ x) (n5 : pw ≠ x) :
    PI H (upd H' x o) b wd ps nd fo pj pw ss rem c e n W L js ws rows :=
  have f := G0.fresh nx
  ⟨p.kw.new nx, p.G.off ox f.1 f.2, p.kn, by rw [upd_ne n1]; exact p.hs, by rw [upd_ne n2]; exact p.hn, by rw [upd_ne n4]; exact p.hj, by rw [upd_ne n5]; exact p.hw, by rw [upd_ne n3]; exact p.hf, p.cj, p.cw, p.rj, p.rw_, p.rr, p.lr, p.hr, p.oj, p.ow, p.of⟩
theorem PI.nd_ne (p : PI H H' b wd ps nd fo pj pw ss rem c e n W L js ws rows) {x : Addr} {zs : List V} (h : H' x = some (.lst zs)) : nd ≠ x := by
  rintro rfl
  rw [p.hn] at h
  cases h
/-- a job is taken -/
theorem PI.job (C : Cs H b wd ps nd fo pj pw) (G0 : Gs H b wd W0 L0) (p : PI H H' b wd ps nd fo pj pw ss rem c e n W L js ws rows) {rem' : List Str} (hj : rem.count ("job" : Str) = 1 + rem'.count ("job" : Str)) (hw : rem.count ("walk" : Str) = rem'.count ("walk" : Str)) :
    ∃ nm, (js.map V.str)[(js.map V.str).length - 1]? = some (V.str nm) ∧ js.dropLast ++ [nm] = js ∧ isName nm = true ∧ PI H (upd H' pj (.lst (js.map V.str).dropLast)) b wd ps nd fo pj pw ss rem' c e n W L js.dropLast ws rows := by
  have l0 : 0 < js.length := by rw [← p.cj]; omega
  have f := G0.fresh C.nj
  refine ⟨_, last_at l0, drop_last l0, p.rj _ (List.getElem_mem _), ?_⟩
  exact ⟨p.kw.new C.nj, p.G.off p.oj f.1 f.2, p.kn, by rw [upd_ne C.sj]; exact p.hs, by rw [upd_ne (p.nd_ne p.hj)]; exact p.hn, by rw [upd_same, List.map_dropLast], by rw [upd_ne C.jw.symm]; exact p.hw, by rw [upd_ne C.jf.symm]; exact p.hf, by rw [List.length_dropLast, ← p.cj]; omega, by rw [← hw]; exact p.cw, fun z hz => p.rj z (List.dropLast_subset _ hz), p.rw_, p.rr, p.lr, p.hr, p.oj, p.ow, p.of⟩
/-- a walk is taken -/
theorem PI.walk (C : Cs H b wd ps nd fo pj pw) (G0 : Gs H b wd W0 L0) (p : PI H H' b wd ps nd fo pj pw ss rem c e n W L js ws rows) {rem' : List Str} (hj : rem.count ("job" : Str) = rem'.count ("job" : Str)) (hw : rem.count ("walk" : Str) = 1 + rem'.count ("walk" : Str)) :
    ∃ nm, (ws.map V.str)[(ws.map V.str).length - 1]? = some (V.str nm) ∧ ws.dropLast ++ [nm] = ws ∧ isName nm = true ∧ PI H (upd H' pw (.lst (ws.map V.str).dropLast)) b wd ps nd fo pj pw ss rem' c e n W L js ws.dropLast rows := by
  have l0 : 0 < ws.length := by rw [← p.cw]; omega
  have f := G0.fresh C.nw
  refine ⟨_, last_at l0, drop_last l0, p.rw_ _ (List.getElem_mem _), ?_⟩
  exact ⟨p.kw.new C.nw, p.G.off p.ow f.1 f.2, p.kn, by rw [upd_ne C.sw]; exact p.hs, by rw [upd_ne (p.nd_ne p.hw)]; exact p.hn, by rw [upd_ne C.jw]; exact p.hj, by rw [upd_same, List.map_dropLast], by rw [upd_ne C.wf.symm]; exact p.hf, by rw [← hj]; exact p.cj, by rw [List.length_dropLast, ← p.cw]; omega, p.rj, fun z hz => p.rw_ z (List.dropLast_subset _ hz), p.rr, p.lr, p.hr, p.oj, p.ow, p.of⟩
/-- the rows of a definition are added -/
theorem PI.add (C : Cs H b wd ps nd fo pj pw) (G0 : Gs H b wd W0 L0) (p : PI H H' b wd ps nd fo pj pw ss rem c e n W L js ws rows) {more : List Str} (h1 : ∀ z ∈ more, Rw 30 z) (h2 : more.length ≤ c) (h3 : hc more ≤ e) :
    PI H (upd H' fo (.lst (rows.map V.str ++ more.map V.str))) b wd ps nd fo pj pw ss rem c e (n + 1) W L js ws (rows ++ more) :=
  have f := G0.fresh C.nf
  ⟨p.kw.new C.nf, p.G.off p.of f.1 f.2, Nat.le_succ_of_le p.kn, by rw [upd_ne C.sf]; exact p.hs, by rw [upd_ne (p.nd_ne p.hf)]; exact p.hn, by rw [upd_ne C.jf]; exact p.hj, by rw [upd_ne C.wf]; exact p.hw, by rw [upd_same, List.map_append], p.cj, p.cw, p.rj, p.rw_, fun z hz => (List.mem_append.mp hz).elim (p.rr z) (h1 z), by have := p.lr; rw [List.length_append, Nat.mul_succ]; omega, by have := p.hr; rw [hc_app, Nat.mul_succ]; omega, p.oj, p.ow, p.of⟩
end
section
variable {P : Program} {w : World} {K : PySem.W.Frag} {mg : Str → Option Value} {base : Heap}
def spProg : Sp := fun vs H Q _ => ∃ (b wd : Addr) (m : Nat) (W : Wv) (L : Lsts), vs = [.ref b, .ref wd, .int (m : Int)] ∧ Gs H b wd W L ∧ m ≤ 4 ∧ L.k = [] ∧ L.j.length ≤ 6 ∧ L.w.length ≤ 6 ∧ L.j.Nodup ∧ L.w.Nodup ∧ ("main" : Str) ∈ L.j ∧ (3 * m + 2) * (L.j.length + L.w.length) ≤ 98 ∧ (m + 1) * (L.j.length + L.w.length) ≤ 60 ∧
  ∀ (H' : Hp) (l : Addr) (rows : List Str), BoxAt H' b → Kw b wd H H' → H l = none → H' l = some (.lst (rows.map V.str)) → (∀ z ∈ rows, Rw 30 z) → rows.length ≤ 98 → hc rows ≤ 60 → Reads rows → Q (.ref l) H'
def progN : List Str := ["_law_box_here", "_law_world_here", "_law_most", "_law_sorts", "_law_names_here", "_law_found", "_law_sort", "_law_name", "_law_rows_here", "_law_turn"]
def triP : List Str := ["_law_box_here", "_law_world_here", "_law_most"]
theorem sc_prog : FnScope progN triP (defScope t_law_program) := ⟨rfl, rfl, rfl, by decide +kernel, rfl, by decide +kernel, by decide +kernel⟩
theorem ok_prog {f fm fs : Addr} {fd dm ds : FuncData} (F : Fun K "_law_program" "_law_program" t_law_program f fd) (B : Bt mg)
    (GM : FnOk P w K mg base CX0 2 fm dm ["_law_box_here", "_law_items"] spMix) (aM : mg "_law_mixed" = some (.ref fm)) (kM : PySem.W.keepIn K (.ref fm) = true) (bM : Binds K dm ["_law_box_here", "_law_items"] [])
    (GS : FnOk P w K mg base CX0 16 fs ds fivP (spRws 4)) (aS : mg "_law_rows" = some (.ref fs)) (kS : PySem.W.keepIn K (.ref fs) = true) (bS : Binds K ds fivP []) :
    FnOk P w K mg base CX0 17 f fd triP spProg := by
  refine F.ok sc_prog (fun vs H Q E h => ?_) (fun cdv A outer s H vs Q E hr h => ?_)
  · obtain ⟨b, wd, m, W, L, rfl, _⟩ := h
    rfl
  · obtain ⟨b, wd, m, W, L, rfl, G0, hm, Lk, Lj, Lw, dj, dw, mj, c98, c60, k⟩ := h
    have nod := sc_prog.nd
    have hr2 : Room 2 (A.deeper (envOfC "_law_program" (defScope t_law_program) s.heap.objs.size f cdv)) := hr.mono (by omega)
    have hu1 := hu_of hr
    refine ⟨_, pss_cons (ps_set (i := 3) nod rfl (Or.inl rfl) (pe_call GM hr2 rfl aM kM bM .nil pass0 (pa_cons (pv 0) (pa_cons (pe_op op_cat (pe_op op_rep (pe_lst (pa_cons pe_str pa_nil)) (pLenQ B.len (pe_dget hu1 (pv 1) pe_str (fun _ _ => rfl)))) (pe_op op_rep (pe_lst (pa_cons pe_str pa_nil)) (pLenQ B.len (pe_dget hu1 (pv 1) pe_str (fun _ _ => rfl))))) pa_nil))))
      (pss_cons (ps_par (i := 4) (j := 5) (by rfl) nod rfl rfl (by decide) rfl rfl (pa_cons (pe_disp (pps_cons pe_str (pe_call GM hr2 rfl aM kM bM .nil pass0 (pa_cons (pv 0) (pa_cons (pe_dget hu1 (pv 1) pe_str (fun _ _ => rfl)) pa_nil))) (pps_cons pe_str (pe_callTy call_list_of rfl B.list (by decide +kernel) (pa_cons (pe_dget hu1 (pv 1) pe_str (fun _ _ => rfl)) pa_nil)) pps_nil)) rfl rfl (by simp) (by decide)) (pa_cons (pe_lst pa_nil) pa_nil)) (by rfl))
      (pss_cons (ps_for PassesOwn.never rfl (pi_list (pv 3)) (pg_name (i := 6) nod rfl (Or.inl rfl))
        (pss_cons (ps_set (i := 7) nod rfl (Or.inl rfl) (pPop (pe_dget hu1 (pv 4) (pv 6) (fun _ _ => rfl))))
        (pss_cons (ps_asg (pe_tup (pa_cons (pv 6) (pa_cons (pv 2) pa_nil))) (pg_tup rfl (pgs_cons (pg_sub (pv 1) pe_str (set_dict hu1)) (pgs_cons (pg_sub (pv 1) pe_str (set_dict hu1)) pgs_nil)) rfl))
        (pss_cons (ps_set (i := 8) nod rfl (Or.inl rfl) (pe_lst pa_nil))
        (pss_cons (ps_for PassesOwn.never rfl (pi_range1 rfl B.range (pa_cons pe_int pa_nil)) (pg_name (i := 9) nod rfl (Or.inl rfl))
          (pss_one (ps_expr (pExtend (pv 8) (pe_call GS hr rfl aS kS bS .nil pass0 (pa_cons (pv 0) (pa_cons (pv 1) (pa_cons pe_int (pa_cons pe_bl (pa_cons (pe_lst pa_nil) pa_nil))))))))))
        (pss_cons (ps_expr (pExtend (pv 5) (pe_op op_cat (pe_op op_cat (pe_lst (pa_cons (pe_op op_add_str (pe_op op_add_str (pv 6) pe_str) (pv 7)) pa_nil)) (pv 8)) (pe_lst (pa_cons pe_str pa_nil)))))
        (pss_one (ps_if (pt_cmpR op_eq (pv 6) pe_str (nomark _)) (pss_one (ps_dput hu1 (pv 1) pe_str (pe_op op_cat (pe_dget hu1 (pv 1) pe_str (fun _ _ => rfl)) (pe_lst (pa_cons (pv 7) pa_nil))) rfl)) pss_nil))))))))
      (pss_one (ps_ret (pv 5))))), ?_⟩
    -- the sorts
    refine seq_cut (t := tAsg _ _) (fun σ' H' => ∃ (ps : Addr) (ss : List Str), σ' = [some (.ref b), some (.ref wd), some (.int (m : Int)), some (.ref ps), none, none, none, none, none, none] ∧ BKp b H H' ∧ H ps = none ∧ H' ps = some (.lst (ss.map V.str)) ∧ ss.Perm (List.replicate L.j.length ("job" : Str) ++ List.replicate L.w.length ("walk" : Str))) (fun N hN => ?_) ?_
    · refine ⟨_, rfl, by show 1 ≤ sizeLine; decide, fun p1 np1 => ?_⟩
      have G1 := G0.same (same_new (o := .lst [V.str "job"]) np1)
      have k1 : BKp b H (upd H p1 (.lst [V.str "job"])) := (BKp.refl G0.box).new np1
      have hp1 : upd H p1 (.lst [V.str "job"]) p1 = some (.lst [V.str "job"]) := upd_same
      generalize upd H p1 (.lst [V.str "job"]) = H1 at G1 k1 hp1 ⊢
      refine ⟨_, rfl, wd, _, rfl, get_jobs G1, _, _, rfl, .inl (SqL.of G1.j.at_), p1, _, _, rfl, rfl, hp1, by omega, by rw [List.length_map]; omega, by rw [List.length_map, sizeLine_eq, Int.toNat_natCast]; show 1 * _ ≤ _; omega, fun p2 np2 => ?_⟩
      rw [List.length_map, rep_map]
      have G2 := G1.same (same_new (o := .lst ((List.replicate L.j.length ("job" : Str)).map V.str)) np2)
      have k2 := k1.new (o := .lst ((List.replicate L.j.length ("job" : Str)).map V.str)) np2
      have hp2 : upd H1 p2 (.lst ((List.replicate L.j.length ("job" : Str)).map V.str)) p2 = some (.lst ((List.replicate L.j.length ("job" : Str)).map V.str)) := upd_same
      generalize upd H1 p2 (.lst ((List.replicate L.j.length ("job" : Str)).map V.str)) = H2 at G2 k2 hp2 ⊢
      refine ⟨by show 1 ≤ sizeLine; decide, fun p3 np3 => ?_⟩
      have t3 := same_new (o := .lst [V.str "walk"]) np3
      have G3 := G2.same t3
      have k3 := k2.same t3
      have hp2 := t3 _ _ hp2
      have hp3 : upd H2 p3 (.lst [V.str "walk"]) p3 = some (.lst [V.str "walk"]) := upd_same
      generalize upd H2 p3 (.lst [V.str "walk"]) = H3 at G3 k3 hp2 hp3 ⊢
      clear t3
      refine ⟨_, rfl, wd, _, rfl, get_walks G3, _, _, rfl, .inl (SqL.of G3.w.at_), p3, _, _, rfl, rfl, hp3, by omega, by rw [List.length_map]; omega, by rw [List.length_map, sizeLine_eq, Int.toNat_natCast]; show 1 * _ ≤ _; omega, fun p4 np4 => ?_⟩
      rw [List.length_map, rep_map]
      have t4 := same_new (o := .lst ((List.replicate L.w.length ("walk" : Str)).map V.str)) np4
      have G4 := G3.same t4
      have k4 := k3.same t4
      have hp2 := t4 _ _ hp2
      have hp4 : upd H3 p4 (.lst ((List.replicate L.w.length ("walk" : Str)).map V.str)) p4 = some (.lst ((List.replicate L.w.length ("walk" : Str)).map V.str)) := upd_same
      generalize upd H3 p4 (.lst ((List.replicate L.w.length ("walk" : Str)).map V.str)) = H4 at G4 k4 hp2 hp4 ⊢
      clear t4
      refine ⟨p2, p4, _, _, rfl, rfl, hp2, hp4, by rw [List.length_map, List.length_map, List.length_replicate, List.length_replicate, sizeLine_eq]; omega, fun p5 np5 => ?_⟩
      rw [← List.map_append]
      have t5 := same_new (o := .lst ((List.replicate L.j.length ("job" : Str) ++ List.replicate L.w.length ("walk" : Str)).map V.str)) np5
      have k5 := k4.same t5
      refine ⟨b, p5, _, rfl, k5.box, upd_same, by rw [List.length_append, List.length_replicate, List.length_replicate]; omega, fun z hz => ?_, fun H6 l out k6 n6 h6 pm => nx_of (hN _ _ ⟨l, out, rfl, k5.trans k6, k5.free n6, h6, pm⟩)⟩
      rcases List.mem_append.mp hz with q | q
      · rw [List.eq_of_mem_replicate q]; exact (rw_of (n := 30) (by decide +kernel)).pln
      · rw [List.eq_of_mem_replicate q]; exact (rw_of (n := 30) (by decide +kernel)).pln
    rintro σ0 H1 ⟨ps, ss, rfl, k1, ns, hps, pm⟩
    have G1 := G0.kp k1
    -- the names, nothing found yet
    refine seq_cut (t := tPar _ _ _) (fun σ' H' => ∃ (nd fo pj pw : Addr), σ' = [some (.ref b), some (.ref wd), some (.int (m : Int)), some (.ref ps), some (.ref nd), some (.ref fo), none, none, none, none] ∧ Cs H b wd ps nd fo pj pw ∧ ∃ js, js.Perm L.j ∧ PI H H' b wd ps nd fo pj pw ss ss (3 * m + 2) (m + 1) 0 W L js L.w []) (fun N hN => ?_) ?_
    · intro nd nnd
      have t2 := same_new (o := .dK []) nnd
      have hn2 : upd H1 nd (.dK []) nd = some (.dK []) := upd_same
      have hps2 := t2 _ _ hps
      have G2 := G1.same t2
      have k2 := k1.same t2
      have nn := k1.free nnd
      generalize upd H1 nd (.dK []) = H2 at t2 hn2 hps2 G2 k2 ⊢
      clear t2
      refine ⟨_, rfl, _, rfl, wd, _, rfl, get_jobs G2, b, W.aj, L.j, rfl, G2.box, G2.j.at_, by omega, fun z hz => (G2.j.rw z hz).pln, fun H3 pj js k3' npj hpj pmj => ?_⟩
      have G3 := G2.kp k3'
      have hps3 := k3'.keep _ _ (box_ne G2.box hps2) hps2
      have hn3 := k3'.keep _ _ (G0.box.ne nn).symm hn2
      have k3 := k2.trans k3'
      have nj := k2.free npj
      have npj3 : ∀ {x : Addr} {o : HO}, H2 x = some o → x ≠ pj := fun h => ne_of_none h npj
      have sj := npj3 hps2
      refine ⟨_, rfl, wd, _, rfl, get_walks G3, W.aw, _, rfl, .inl (SqL.of G3.w.at_), fun pw npw => ?_⟩
      have nw := k3.free npw
      have sw : ps ≠ pw := ne_of_none hps3 npw
      have jw : pj ≠ pw := ne_of_none hpj npw
      have ow := G3.offs npw
      have t4 := same_new (o := .lst (L.w.map V.str)) npw
      have hpw4 : upd H3 pw (.lst (L.w.map V.str)) pw = some (.lst (L.w.map V.str)) := upd_same
      have G4 := G3.same t4
      have k4 := k3.same t4
      have hps4 := t4 _ _ hps3
      have hn4 := t4 _ _ hn3
      have hpj4 := t4 _ _ hpj
      generalize upd H3 pw (.lst (L.w.map V.str)) = H4 at hpw4 G4 k4 hps4 hn4 hpj4 ⊢
      clear t4
      refine ⟨hn4, nkv pj pw, rfl, by show 2 ≤ 15; decide, ?_⟩
      rw [nk_disp]
      have e1 : nd ≠ ps := by rintro rfl; rw [hn4] at hps4; cases hps4
      have e2 : nd ≠ pj := by rintro rfl; rw [hn4] at hpj4; cases hpj4
      have e3 : nd ≠ pw := by rintro rfl; rw [hn4] at hpw4; cases hpw4
      have f := G0.fresh nn
      have G5 : Gs (upd H4 nd (.dK (nkv pj pw))) b wd W L := G4.off (G1.offs nnd) f.1 f.2
      have k5 : BKp b H (upd H4 nd (.dK (nkv pj pw))) := k4.laid G0.box nn
      have hps5 : upd H4 nd (.dK (nkv pj pw)) ps = some (.lst (ss.map V.str)) := by rw [upd_ne e1.symm]; exact hps4
      have hpj5 : upd H4 nd (.dK (nkv pj pw)) pj = some (.lst (js.map V.str)) := by rw [upd_ne e2.symm]; exact hpj4
      have hpw5 : upd H4 nd (.dK (nkv pj pw)) pw = some (.lst (L.w.map V.str)) := by rw [upd_ne e3.symm]; exact hpw4
      have hn5 : upd H4 nd (.dK (nkv pj pw)) nd = some (.dK (nkv pj pw)) := upd_same
      generalize upd H4 nd (.dK (nkv pj pw)) = H5 at G5 k5 hps5 hpj5 hpw5 hn5 ⊢
      refine ⟨by show 0 ≤ sizeLine; decide, fun fo nfo => ⟨_, _, rfl, nx_mk (hN _ _ ?_)⟩⟩
      have t6 := same_new (o := .lst []) nfo
      have cj : ss.count ("job" : Str) = js.length := by
        rw [pm.count_eq, List.count_append, List.count_replicate, List.count_replicate, pmj.length_eq]
        simp
        exact fun q => absurd q (by decide +kernel)
      have cw : ss.count ("walk" : Str) = L.w.length := by
        rw [pm.count_eq, List.count_append, List.count_replicate, List.count_replicate]
        simp
        exact fun q => absurd q (by decide +kernel)
      refine ⟨nd, fo, pj, pw, rfl, ⟨ns, nn, k5.free nfo, nj, nw, ne_of_none hps5 nfo, sj, sw, jw, ne_of_none hpj5 nfo, ne_of_none hpw5 nfo⟩, js, pmj, ?_⟩
      exact ⟨Kw.of (k5.same t6), G5.same t6, by rw [Lk]; decide, t6 _ _ hps5, t6 _ _ hn5, t6 _ _ hpj5, t6 _ _ hpw5, upd_same, cj, cw, fun z hz => G2.j.nm z (pmj.mem_iff.mp hz), G3.w.nm, fun z hz => (nomatch hz), Nat.le_refl _, Nat.le_refl _, G2.offs npj, ow, G5.offs nfo⟩
    rintro σ0 H2 ⟨nd, fo, pj, pw, rfl, C, j0, pj0, p0⟩
    have ess : ss.length = L.j.length + L.w.length := by
      rw [pm.length_eq, List.length_append, List.length_replicate, List.length_replicate]
    have lss : ss.length ≤ 12 := by omega
    have nj0 : j0.Nodup := pj0.nodup_iff.mpr dj
    have st : ∀ {x : Addr} {zs : List Str} {H3 : Hp}, H3 x = some (.lst (zs.map V.str)) → SqL K H3 x (zs.map V.str) := fun h => SqL.of h
    refine ⟨_, rfl, ps, rfl, ⟨_, st p0.hs⟩, for_list (K := K) (a := ps) (xs := ss.map V.str) (fun i σ' H' => ∃ (v6 v7 v8 v9 : Option V) (W' : Wv) (L' : Lsts) (js ws rows : List Str), σ' = [some (.ref b), some (.ref wd), some (.int (m : Int)), some (.ref ps), some (.ref nd), some (.ref fo), v6, v7, v8, v9] ∧ PI H H' b wd ps nd fo pj pw ss (ss.drop i) (3 * m + 2) (m + 1) i W' L' js ws rows ∧ L'.j = L.j ∧ RI j0 L.w L.j js ws L'.k rows)
      ⟨none, none, none, none, W, L, j0, L.w, [], rfl, p0, rfl, by rw [Lk]; exact RI.start⟩ (fun i σ' H' _ q => ?_) ?_ ?_⟩
    · obtain ⟨_, _, _, _, _, _, _, _, _, _, p, _⟩ := q
      exact st p.hs
    · rintro i x σ' H3 hi ⟨v6, v7, v8, v9, W3, L3, js, ws, rows, rfl, p3, lj3, r3⟩
      obtain ⟨z, hz, rfl⟩ : ∃ z, ss[i]? = some z ∧ x = V.str z := by
        rw [List.getElem?_map] at hi
        cases e : ss[i]? with
        | none => rw [e] at hi; cases hi
        | some y => rw [e] at hi; exact ⟨y, rfl, (Option.some.inj hi).symm⟩
      have hi6 : i < ss.length := (List.getElem?_eq_some_iff.mp hz).1
      have zz : z = "job" ∨ z = "walk" := by
        rcases List.mem_append.mp (pm.mem_iff.mp (List.mem_of_getElem? hz)) with q | q
        · exact .inl (List.eq_of_mem_replicate q)
        · exact .inr (List.eq_of_mem_replicate q)
      have rz : Rw 4 z := by
        rcases zz with rfl | rfl
        · exact rw_of (by decide +kernel)
        · exact rw_of (by decide +kernel)
      refine nx_of ?_
      -- its name
      refine seq_cut (t := tAsg _ _) (fun σ' H' => ∃ (nm : Str) (js' ws' : List Str), σ' = [some (.ref b), some (.ref wd), some (.int (m : Int)), some (.ref ps), some (.ref nd), some (.ref fo), some (.str z), some (.str nm), v8, v9] ∧ isName nm = true ∧ PI H H' b wd ps nd fo pj pw ss (ss.drop (i + 1)) (3 * m + 2) (m + 1) i W3 L3 js' ws' rows ∧ (z = "job" → RI j0 L.w L.j (js' ++ [nm]) ws' L3.k rows) ∧ (z = "walk" → RI j0 L.w L.j js' (ws' ++ [nm]) L3.k rows)) (fun N hN => ?_) ?_
      · rcases zz with rfl | rfl
        · obtain ⟨nm, e, ej, r, p4⟩ := p3.job C G0 (rem' := ss.drop (i + 1)) (by rw [count_drop hz, if_pos rfl]) (by rw [count_drop hz, if_neg (by decide +kernel)]; omega)
          exact ⟨_, rfl, _, rfl, nd, _, rfl, get_nj p3.hn, .inl ⟨rfl, _, st p3.hj⟩, pj, _, _, rfl, rfl, p3.hj, e, nx_of (hN _ _ ⟨nm, _, _, rfl, r, p4, fun _ => by rw [ej]; exact r3, fun q => absurd q (by decide +kernel)⟩)⟩
        · obtain ⟨nm, e, ej, r, p4⟩ := p3.walk C G0 (rem' := ss.drop (i + 1)) (by rw [count_drop hz, if_neg (by decide +kernel)]; omega) (by rw [count_drop hz, if_pos rfl])
          exact ⟨_, rfl, _, rfl, nd, _, rfl, get_nw p3.hn, .inl ⟨rfl, _, st p3.hw⟩, pw, _, _, rfl, rfl, p3.hw, e, nx_of (hN _ _ ⟨nm, _, _, rfl, r, p4, fun q => absurd q (by decide +kernel), fun _ => by rw [ej]; exact r3⟩)⟩
      rintro σ0 H4 ⟨nm, js, ws, rfl, nnm, p4, rj4, rw4⟩
      have rnm := name_rw nnm
      -- the world's sort, the rows left
      refine seq_cut (t := tAsg _ _) (fun σ' H' => ∃ (W5 : Wv), σ' = [some (.ref b), some (.ref wd), some (.int (m : Int)), some (.ref ps), some (.ref nd), some (.ref fo), some (.str z), some (.str nm), v8, v9] ∧ W5.left = m ∧ W5.sort = z ∧ PI H H' b wd ps nd fo pj pw ss (ss.drop (i + 1)) (3 * m + 2) (m + 1) i W5 L3 js ws rows) (fun N hN => ?_) ?_
      · refine ⟨_, rfl, _, rfl, by show 2 ≤ sizeLine; decide, fun t nt => ⟨t, _, rfl, SqT.of upd_same, rfl, ?_⟩⟩
        have p5 := p4.same C G0 (same_new (o := .tup [V.str z, .int (m : Int)]) nt)
        generalize upd H4 t (.tup [V.str z, .int (m : Int)]) = H5 at p5 ⊢
        refine ⟨_, _, rfl, ⟨_, rfl, wd, _, rfl, DPut.k (k := Sum.inr "sort") p5.G.at_ (by show 8 < sizeLine; decide), ?_⟩⟩
        rw [put_sort]
        have p6 := p5.move C G0 (Kw.put Kw.refl) (p5.G.setSort z) p5.kn ⟨p5.oj.j, p5.oj.k, p5.oj.w, p5.oj.g, p5.oj.n⟩ ⟨p5.ow.j, p5.ow.k, p5.ow.w, p5.ow.g, p5.ow.n⟩ ⟨p5.of.j, p5.of.k, p5.of.w, p5.of.g, p5.of.n⟩
        generalize upd H5 wd (.dK (wkv { W3 with sort := z })) = H6 at p6 ⊢
        refine ⟨_, _, rfl, ⟨_, rfl, wd, _, rfl, DPut.k (k := Sum.inr "left") p6.G.at_ (by show 8 < sizeLine; decide), ?_⟩⟩
        rw [put_left]
        have p7 := p6.move C G0 (Kw.put Kw.refl) (p6.G.put m) p6.kn ⟨p6.oj.j, p6.oj.k, p6.oj.w, p6.oj.g, p6.oj.n⟩ ⟨p6.ow.j, p6.ow.k, p6.ow.w, p6.ow.g, p6.ow.n⟩ ⟨p6.of.j, p6.of.k, p6.of.w, p6.of.g, p6.of.n⟩
        exact ⟨rfl, hN _ _ ⟨_, rfl, rfl, rfl, p7⟩⟩
      rintro σ0 H5 ⟨W5, rfl, hleft, hsort, p5⟩
      -- its rows
      refine seq_cut (t := tAsg _ _) (fun σ' H' => ∃ (r8 : Addr), σ' = [some (.ref b), some (.ref wd), some (.int (m : Int)), some (.ref ps), some (.ref nd), some (.ref fo), some (.str z), some (.str nm), some (.ref r8), v9] ∧ H5 r8 = none ∧ H' = upd H5 r8 (.lst [])) (fun N hN => ?_) ?_
      · exact ⟨by show 0 ≤ sizeLine; decide, fun q nq => nx_of (hN _ _ ⟨q, rfl, nq, rfl⟩)⟩
      rintro σ0 H6 ⟨r8, rfl, n8, rfl⟩
      have h8 : H r8 = none := (p5.kw.free p5.G n8).1
      have f8 := G0.fresh h8
      have o8 := p5.G.offs n8
      have ns8 : ps ≠ r8 := ne_of_none p5.hs n8
      have nn8 : nd ≠ r8 := ne_of_none p5.hn n8
      have nf8 : fo ≠ r8 := ne_of_none p5.hf n8
      have nj8 : pj ≠ r8 := ne_of_none p5.hj n8
      have nw8 : pw ≠ r8 := ne_of_none p5.hw n8
      have p6 := p5.aside C G0 (o := .lst []) h8 o8 ns8 nn8 nf8 nj8 nw8
      have q8 : upd H5 r8 (.lst []) r8 = some (.lst []) := upd_same
      generalize upd H5 r8 (.lst []) = H6 at p6 q8 ⊢
      refine seq_cut (t := tFor _ _ _) (fun σ' H' => ∃ (v9 : Option V) (left : Nat) (rs : List Str), σ' = [some (.ref b), some (.ref wd), some (.int (m : Int)), some (.ref ps), some (.ref nd), some (.ref fo), some (.str z), some (.str nm), some (.ref r8), v9] ∧ PI H H' b wd ps nd fo pj pw ss (ss.drop (i + 1)) (3 * m + 2) (m + 1) i { W5 with left := left } L3 js ws rows ∧ H' r8 = some (.lst (rs.map V.str)) ∧ (∀ z ∈ rs, Rw 30 z) ∧ left ≤ m ∧ rs.length ≤ 3 * (m - left) ∧ hc rs ≤ m - left ∧ Good z false [] 0 L3.k L3.j rs) (fun N hN => ?_) ?_
      · refine ⟨2, rfl, by decide, by decide, for_range (lo := 0) (n := 2) (fun j σ' H' => ∃ (v9 : Option V) (left : Nat) (rs : List Str), σ' = [some (.ref b), some (.ref wd), some (.int (m : Int)), some (.ref ps), some (.ref nd), some (.ref fo), some (.str z), some (.str nm), some (.ref r8), v9] ∧ PI H H' b wd ps nd fo pj pw ss (ss.drop (i + 1)) (3 * m + 2) (m + 1) i { W5 with left := left } L3 js ws rows ∧ H' r8 = some (.lst (rs.map V.str)) ∧ (∀ z ∈ rs, Rw 30 z) ∧ left ≤ m ∧ rs.length ≤ 3 * (m - left) ∧ hc rs ≤ m - left ∧ Good z false [] 0 L3.k L3.j rs)
          ⟨v9, m, [], rfl, by rw [show ({ W5 with left := m } : Wv) = W5 by rw [← hleft]]; exact p6, q8, fun z h => (nomatch h), Nat.le_refl _, by simp, by simp [hc_nil], Good.nil⟩ ?_ ?_⟩
        · rintro j σ' H7 hj ⟨v9, left, rs, rfl, p7, q7, rr7, le7, lr7, hr7, gr7⟩
          refine nx_of ?_
          refine ⟨_, rfl, .inl ⟨rfl, _, st q7⟩, _, rfl, _, rfl, by show 0 ≤ sizeLine; decide, fun q nq => ?_⟩
          have p8 := p7.same C G0 (same_new (o := .lst []) nq)
          have q8 := same_new (o := .lst []) nq _ _ q7
          have hq : upd H7 q (.lst []) q = some (.lst (([] : List Str).map V.str)) := upd_same
          generalize upd H7 q (.lst []) = H8 at p8 q8 hq ⊢
          refine ⟨b, wd, q, 0, false, { W5 with left := left }, L3, [], ⟨rfl, p8.G, hq, Nat.le_refl _, Nat.le_refl _, by decide, (show left ≤ 100 by omega)⟩, fun H9 l ys left' k9 G9 le9 nl hl ry ly hy gy => ?_⟩
          have le9 : left' ≤ left := le9
          have ly : ys.length ≤ 3 * (0 + (left - left')) := ly
          have hy : hc ys ≤ 0 + (left - left') := hy
          have p9 : PI H H9 b wd ps nd fo pj pw ss (ss.drop (i + 1)) (3 * m + 2) (m + 1) i { W5 with left := left' } L3 js ws rows := p8.move C G0 k9 G9 p8.kn ⟨p8.oj.j, p8.oj.k, p8.oj.w, p8.oj.g, p8.oj.n⟩ ⟨p8.ow.j, p8.ow.k, p8.ow.w, p8.ow.g, p8.ow.n⟩ ⟨p8.of.j, p8.of.k, p8.of.w, p8.of.g, p8.of.n⟩
          have q9 := k9 _ _ f8.1 f8.2 q8
          refine ⟨r8, l, _, _, rfl, rfl, q9, hl, by rw [List.length_map, List.length_map, sizeLine_eq]; omega, ?_⟩
          refine ⟨_, left', rs ++ ys, rfl, p9.aside C G0 h8 ⟨o8.j, o8.k, o8.w, o8.g, o8.n⟩ ns8 nn8 nf8 nj8 nw8, by rw [upd_same, List.map_append], fun y hy => ?_, by omega, by rw [List.length_append]; omega, by rw [hc_app]; omega, gr7.app (by rw [← hsort]; exact gy)⟩
          rcases List.mem_append.mp hy with q | q
          · exact rr7 y q
          · exact ry y q
        · rintro σ' H7 ⟨v9, left, rs, rfl, p7, q7, rr7, le7, lr7, hr7, gr7⟩
          exact hN _ _ ⟨v9, left, rs, rfl, p7, q7, rr7, le7, lr7, hr7, gr7⟩
      rintro σ0 H7 ⟨v9', left, rs, rfl, p7, q7, rr7, le7, lr7, hr7, gr7⟩
      -- they are found
      have rhead : Rw 13 (z ++ " " ++ nm) := (rz.app (rw_of (n := 1) (r := " ") (by decide +kernel))).app rnm
      refine seq_cut (t := tDrop _) (fun σ' H' => σ' = [some (.ref b), some (.ref wd), some (.int (m : Int)), some (.ref ps), some (.ref nd), some (.ref fo), some (.str z), some (.str nm), some (.ref r8), v9'] ∧ PI H H' b wd ps nd fo pj pw ss (ss.drop (i + 1)) (3 * m + 2) (m + 1) (i + 1) { W5 with left := left } L3 js ws (rows ++ ((z ++ " " ++ nm) :: rs ++ [("end" : Str)]))) (fun N hN => ?_) ?_
      · have e1 := rz.len
        have e2 := rnm.len
        refine ⟨_, rfl, .inl ⟨rfl, _, st p7.hf⟩, _, rfl, _, _, rfl, rfl, by rw [sizeLine_eq]; show _ + 1 ≤ _; omega, _, rfl, _, _, rfl, rfl, by rw [sizeLine_eq, Str.length_append]; show _ + 1 + _ ≤ _; omega, by show 1 ≤ sizeLine; decide, fun q1 nq1 => ?_⟩
        dsimp only
        have t1 := same_new (o := .lst [V.str (z ++ " " ++ nm)]) nq1
        have a1 : upd H7 q1 (.lst [V.str (z ++ " " ++ nm)]) q1 = some (.lst [V.str (z ++ " " ++ nm)]) := upd_same
        have p8 := p7.same C G0 t1
        have q8 := t1 _ _ q7
        generalize upd H7 q1 (.lst [V.str (z ++ " " ++ nm)]) = H8 at p8 a1 q8 ⊢
        clear t1
        refine ⟨_, rfl, q1, r8, _, _, rfl, rfl, a1, q8, by rw [List.length_map, sizeLine_eq]; show 1 + _ ≤ _; omega, fun q2 nq2 => ?_⟩
        have t2 := same_new (o := .lst ([V.str (z ++ " " ++ nm)] ++ rs.map V.str)) nq2
        have a2 : upd H8 q2 (.lst ([V.str (z ++ " " ++ nm)] ++ rs.map V.str)) q2 = some (.lst (((z ++ " " ++ nm) :: rs).map V.str)) := upd_same
        have p9 := p8.same C G0 t2
        generalize upd H8 q2 (.lst ([V.str (z ++ " " ++ nm)] ++ rs.map V.str)) = H9 at p9 a2 ⊢
        clear t2
        refine ⟨by show 1 ≤ sizeLine; decide, fun q3 nq3 => ?_⟩
        have t3 := same_new (o := .lst [V.str "end"]) nq3
        have a3 : upd H9 q3 (.lst [V.str "end"]) q3 = some (.lst [V.str "end"]) := upd_same
        have pa := p9.same C G0 t3
        have a2 := t3 _ _ a2
        generalize upd H9 q3 (.lst [V.str "end"]) = Ha at pa a2 a3 ⊢
        clear t3
        refine ⟨q2, q3, _, _, rfl, rfl, a2, a3, by rw [List.length_map, List.length_cons, sizeLine_eq]; show _ + 1 + 1 ≤ _; omega, fun q4 nq4 => ?_⟩
        have t4 := same_new (o := .lst (((z ++ " " ++ nm) :: rs).map V.str ++ [V.str "end"])) nq4
        have a4 : upd Ha q4 (.lst (((z ++ " " ++ nm) :: rs).map V.str ++ [V.str "end"])) q4 = some (.lst (((z ++ " " ++ nm) :: rs ++ [("end" : Str)]).map V.str)) := by rw [upd_same, List.map_append (l₂ := [("end" : Str)])]; rfl
        have pb := pa.same C G0 t4
        generalize upd Ha q4 (.lst (((z ++ " " ++ nm) :: rs).map V.str ++ [V.str "end"])) = Hb at pb a4 ⊢
        clear t4
        have ll : ((z ++ " " ++ nm) :: rs ++ [("end" : Str)]).length ≤ 3 * m + 2 := by rw [List.length_append, List.length_cons]; show _ + 1 + 1 ≤ _; omega
        have lro : rows.length ≤ 98 := Nat.le_trans p7.lr (Nat.le_trans (Nat.mul_le_mul_left _ (by omega)) c98)
        refine ⟨fo, q4, _, _, rfl, rfl, pb.hf, a4, by rw [List.length_map, List.length_map, sizeLine_eq]; omega, hN _ _ ?_⟩
        refine ⟨rfl, pb.add C G0 (fun y hy => ?_) ll ?_⟩
        · rcases List.mem_append.mp hy with q | q
          · rcases List.mem_cons.mp q with q | q
            · rw [q]; exact rhead.wider (by decide)
            · exact rr7 y q
          · rw [List.mem_singleton.mp q]; exact rw_of (by decide +kernel)
        · have := hc_cons (z ++ " " ++ nm) rs
          rw [hc_end]
          omega
      rintro σ0 H8 ⟨rfl, p8⟩
      -- a walk is known from here on
      refine ⟨_, rfl, rfl, _, rfl, ?_⟩
      cases cz : decide (V.str z = V.str "walk") with
      | false =>
        have ez : z = "job" := zz.resolve_right fun q => absurd (congrArg V.str q) (of_decide_eq_false cz)
        subst ez
        exact iteF (nx_mk ⟨_, _, _, _, _, _, _, _, _, rfl, p8, lj3, (rj4 rfl).job nj0 nnm (by rw [← lj3]; exact gr7)⟩)
      | true =>
        have ez : z = "walk" := V.str.inj (of_decide_eq_true cz)
        subst ez
        have k8 := p8.G.k
        have kn := p7.kn
        refine iteT ⟨_, rfl, wd, _, rfl, get_known p8.G, _, rfl, by show 1 ≤ sizeLine; decide, fun q1 nq1 => ?_⟩
        have t1 := same_new (o := .lst [V.str nm]) nq1
        have a1 : upd H8 q1 (.lst [V.str nm]) q1 = some (.lst ([nm].map V.str)) := upd_same
        have p9 := p8.same C G0 t1
        generalize upd H8 q1 (.lst [V.str nm]) = H9 at p9 a1 ⊢
        clear t1
        refine ⟨W5.ak, q1, _, _, rfl, rfl, p9.G.k.at_, a1, by rw [List.length_map, List.length_map, sizeLine_eq]; show _ + 1 ≤ _; omega, fun q2 nq2 => ?_⟩
        have t2 := same_new (o := .lst (L3.k.map V.str ++ [nm].map V.str)) nq2
        have a2 : upd H9 q2 (.lst (L3.k.map V.str ++ [nm].map V.str)) q2 = some (.lst ((L3.k ++ [nm]).map V.str)) := by rw [upd_same, List.map_append]
        have pa := p9.same C G0 t2
        have n1 : pj ≠ q2 := ne_of_none p9.hj nq2
        have n2 : pw ≠ q2 := ne_of_none p9.hw nq2
        have n3 : fo ≠ q2 := ne_of_none p9.hf nq2
        generalize upd H9 q2 (.lst (L3.k.map V.str ++ [nm].map V.str)) = Ha at pa a2 ⊢
        clear t2
        have N : Nm Ha q2 (L3.k ++ [nm]) := ⟨a2, fun y hy => (List.mem_append.mp hy).elim (pa.G.k.nm y) fun q => by rw [List.mem_singleton.mp q]; exact nnm, by rw [List.length_append]; show _ + 1 ≤ _; omega⟩
        refine ⟨_, rfl, wd, _, rfl, DPut.k (k := Sum.inr "known") pa.G.at_ (by show 8 < sizeLine; decide), nx_mk ?_⟩
        rw [put_known]
        refine ⟨_, _, _, _, { W5 with left := left, ak := q2 }, { L3 with k := L3.k ++ [nm] }, _, _, _, rfl, pa.move C G0 (Kw.put Kw.refl) (pa.G.setKnown N) (by rw [List.length_append]; show _ + 1 ≤ _; omega) ⟨pa.oj.j, n1.symm, pa.oj.w, pa.oj.g, pa.oj.n⟩ ⟨pa.ow.j, n2.symm, pa.ow.w, pa.ow.g, pa.ow.n⟩ ⟨pa.of.j, n3.symm, pa.of.w, pa.of.g, pa.of.n⟩, lj3, (rw4 rfl).walk dw nnm (by rw [← lj3]; exact gr7)⟩
    · rintro σ' H3 ⟨v6, v7, v8, v9, W3, L3, js, ws, rows, rfl, p3, lj3, r3⟩
      have el : (ss.map V.str).length = L.j.length + L.w.length := by rw [List.length_map]; exact ess
      have edrop : ss.drop (ss.map V.str).length = [] := by rw [List.length_map, List.drop_length]
      have ej : js = [] := List.eq_nil_of_length_eq_zero (by rw [← p3.cj, edrop]; rfl)
      have ew : ws = [] := List.eq_nil_of_length_eq_zero (by rw [← p3.cw, edrop]; rfl)
      subst ej ew
      have h98 : rows.length ≤ 98 := Nat.le_trans p3.lr (by rw [el]; exact c98)
      refine ⟨_, rfl, k H3 fo rows p3.G.box p3.kw C.nf p3.hf p3.rr h98 (Nat.le_trans p3.hr (by rw [el]; exact c60)) (r3.reads (pj0.mem_iff.mpr mj) (fun z hz => pj0.mem_iff.mpr hz) (by omega) (by rw [pj0.length_eq]; exact Lj) Lw)⟩
end
end Ly
end
section
set_option Elab.async false
set_option linter.all false
set_option maxRecDepth 100000
set_option maxHeartbeats 2000000
/-! ==, != and len by a class's own words, whatever they answer. -/
namespace Ly
open PySem PySem.Spec PyProof.Rows L2
/-- a def that never raises where its promise is asked -/
theorem calmFn {P : Program} {w : World} {K : PySem.W.Frag} {mg : Str → Option Value} {base : Heap} {k : Nat} {f : Addr} {fd : FuncData} {ps : List Str} {sp sp' : Sp} (F : FnOk P w K mg base (L2.CX P w) k f fd ps sp) (h : ∀ vs H Q E, sp' vs H Q E → sp vs H Q E0) : FnOk P w K mg base CX0 k f fd ps sp' :=
  ⟨fun vs H Q E q => F.len vs H Q E0 (h _ _ _ _ q), fun A outer s H args us vs Q E hr he hb hv hs => codeAny_mono (F.run A outer s H args us vs Q E0 hr he hb hv (h _ _ _ _ hs)) fun r s' hq => by
    cases r with
    | error e =>
      obtain ⟨_, _, _, _, _, _, _, _, _, _, _, _, q⟩ := hq
      exact q.elim
    | ok fl => cases fl <;> exact hq⟩
section
variable {X : Cx} {k : Nat} {f C : Addr} {fd : FuncData} {ps : List Str} {sp : Sp}
theorem run_sub {A : Around} {pins : List (Addr × Obj)} {σ : L2.St} {H : Hp} {s : Shared} {us : List Value} {vs : List V} {Q : VK} (sb : Sub X k A) (F : FnOk X.prog X.w X.K X.mg X.base CX0 k f fd ps sp) (hb : Binds X.K fd ps []) (I : Inv X pins σ H s) (r : Vals vs us) (h : sp vs H Q E0) :
    wpAny (model X.prog X.w) A (call (.ref f) us) (EP X pins σ Q) X.xe s := by
  have e0 : Env0 X.prog X.w X.K X.mg X.base A X.stack s H := by
    have e := I.env0
    exact ⟨by rw [sb.fr]; exact e.frames, e.mod, e.bs, e.bsz, e.funs, e.frf, e.hok, e.bare⟩
  have hl := F.len _ _ _ _ h
  refine wpAny_call (codeAny_mono (F.run A X.stack s H ⟨us, []⟩ us vs Q E0 sb.room e0 (by
    have := hb s us I.kIn (by rw [List.append_nil, ← r.length]; exact hl)
    rw [List.append_nil] at this
    exact this) r h) fun r s' hq => ?_)
  cases r with
  | error e => exact False.elim hq
  | ok fl =>
    cases fl with
    | ret w => exact I.after hq
    | next => exact False.elim hq
    | brk => exact False.elim hq
    | cont => exact False.elim hq
/-- x == y (neg: x != y), x's class has its own __eq__ that answers True or False -/
def rOwn (K : PySem.W.Frag) (C : Addr) (sp : Sp) (neg : Bool) : R2 := fun x y H Q => ∃ (a dx : Addr) (fs : List (Str × V)) (t : Value), x = .ref a ∧ H a = some (.ins C dx fs) ∧ TyX K H y t ∧ PySem.W.notFirst K C t = true ∧ sp [x, y] H (fun v H' => ∃ b : Bool, v = .bl b ∧ Q (.bl (if neg then !b else b)) H') E0
theorem op_ownEq (F : FnOk X.prog X.w X.K X.mg X.base CX0 k f fd ps sp) (hs : PySem.W.findIn X.K (.ref C) "__eq__" = some (some (.ref f))) (hf : PySem.W.isFn X.K (.ref f) = true) (hb : Binds X.K fd ps []) (hr : Room k X.A) : OpR X (compareOp .Eq) (rOwn X.K C sp false) := by
  intro pins s σ H x y v u Q I rx ry hq
  obtain ⟨a, dx, fs, t, rfl, ha, ty, nf, q⟩ := hq
  obtain ⟨P, Z, p, _⟩ := kit_of I ry ty
  cases rx
  obtain ⟨mA, J, _⟩ := ins_get I.hok ha
  obtain ⟨od, J, _⟩ := J.look
  obtain ⟨m, hF⟩ := I.fr
  show wpAny (model X.prog X.w) X.A (richCompare .Eq (.ref a) u) (EP X pins σ Q) X.xe s
  refine PySem.W.cmp_K (op := .Eq) (tb := t) hr.units0 hF I.ok.mod.kin J (Z.ty _ _ I.kIn p) nf hs hf ?_
  refine wpAny_mono (run_sub ⟨hr, rfl⟩ F hb I (show Vals [V.ref a, y] [Value.ref a, u] from .cons rfl (.cons ry .nil)) q) (fun r s' z => ?_) fun _ _ x => x
  obtain ⟨v, H', I', rv, b, rfl, qq⟩ := z
  cases rv
  exact ⟨.bl b, H', I', rfl, qq⟩
end
section
variable {M : Model} {prog : Program} {w : World} {A : Around} {E : Value → Shared → Prop} {s : Shared} {K : PySem.W.Frag} {x C f : Addr} {ox : Obj} {od : Option Obj} {b : Value} {tb : Value}
theorem ifBound_objNe {args : List Value} {Q : Option Value → Shared → Prop} (X : K.In s.heap) (I : PySem.W.InstAt s.heap x ox C od) (hs : PySem.W.findIn K (.ref C) "__ne__" = some (some (.builtin "object.__ne__")))
    (h : wpAny M A (call (.builtin "object.__ne__") (.ref x :: args)) (fun v => Q (some v)) E s) : wpAny M A (callSpecialIfBound? (.ref x) "__ne__" args) Q E s := by
  simp only [callSpecialIfBound?, bindSpecialIfBound?]
  refine wpAny_holding (wpAny_bind (wpAny_bind (wpAny_bind (I.type.here ((PySem.W.looks_findIn X hs).here ?_)))))
  refine wpAny_bind (wpAny_askSetting (wpAny_ite ?_))
  have fin : wpAny M A (call (.builtin "object.__ne__") ([.ref x] ++ args) >>= fun v => pure (some v)) Q E s := wpAny_bind (wpAny_mono h (fun v s' h' => wpAny_pure h') fun _ _ h' => h')
  split
  · exact wpAny_bind (wpAny_of_eq (F.cmp_object.ne.bind _) (wpAny_pure (by exact fin)))
  · exact wpAny_tryCatch (wpAny_bind (wpAny_of_eq (F.cmp_object.ne.bind _) (wpAny_pure (by exact fin))))
theorem call_objNe {Q : Value → Shared → Prop} (hu : A.in1.units < cLine) (X : K.In s.heap) (I : PySem.W.InstAt s.heap x ox C od) (hm : PySem.W.mroIn K C (.type "object") = some true) (hs : PySem.W.findIn K (.ref C) "__eq__" = some (some (.ref f))) (hf : PySem.W.isFn K (.ref f) = true)
    (h : wpAny (model prog w) A.in1 (call (.ref f) [.ref x, b]) (fun v s' => ∃ r : Bool, v = .bool r ∧ Q (.bool (!r)) s') E s) : wpAny (model prog w) A (call (.builtin "object.__ne__") [.ref x, b]) Q E s := by
  refine wpAny_call (codeAny_call_builtin F.cmp_object.ne.plain F.cmpEntry_ne (PySem.W.check_slot F.cmpKind_ne F.cmpSplit_ne (I.type.andThen (PySem.W.looks_mroIn X hm)) (F.cmpArgs_ne _ _) ?_))
  unfold Builtin.«object.__ne__»
  repeat (first
    | with_reducible refine wpAny_cRoomFor hu ?_
    | (refine wpAny_bind (m := callSpecialIfBound? (.ref x) (Str.ofString "__eq__") [b])
        (PySem.W.ifBound_K X I hs hf (wpAny_mono h (fun r s' hr => by
          obtain ⟨b, rfl, hq⟩ := hr
          repeat (first | exact hq | exact wpAny_pure hq | exact wpAny_truthy_bool hq | (refine wpAny_bind (m := truthy (.bool _)) (wpAny_truthy_bool ?_)) | wp_step)) fun _ _ e => e)))
    | wp_step)
theorem ne_K {Q : Value → Shared → Prop} {h₀ : Heap} {L : Addr} {m : Str → Option Value} (hu : A.units < cLine) (hu1 : A.in1.units < cLine) (F : Fr h₀ L s.heap m) (X₀ : K.In h₀) (I : PySem.W.InstAt s.heap x ox C od) (hb : PySem.W.Looks (model prog w) s.heap (typeOf b) tb) (hn : PySem.W.notFirst K C tb = true)
    (hm : PySem.W.mroIn K C (.type "object") = some true) (hne : PySem.W.findIn K (.ref C) "__ne__" = some (some (.builtin "object.__ne__")))
    (hs : PySem.W.findIn K (.ref C) "__eq__" = some (some (.ref f))) (hf : PySem.W.isFn K (.ref f) = true)
    (h : wpAny (model prog w) A.in1 (call (.ref f) [.ref x, b]) (fun v s' => ∃ r : Bool, v = .bool r ∧ Q (.bool (!r)) s') E s) : wpAny (model prog w) A (richCompare .NotEq (.ref x) b) Q E s := by
  have X := X₀.keeps F.keep
  have one : wpAny (model prog w) A (tryCompare (.ref x) "__ne__" b) (fun r s' => ∃ v, r = some v ∧ Q v s') E s := by
    unfold tryCompare
    refine wpAny_bind (ifBound_objNe X I hne (call_objNe hu1 X I hm hs hf (wpAny_mono h (fun v s' hv => ?_) fun _ _ e => e)))
    obtain ⟨r, rfl, q⟩ := hv
    exact ⟨r, rfl, wpAny_pure ⟨_, rfl, q⟩⟩
  unfold richCompare
  simp only [oneThing_ref]
  refine wpAny_holding (wpAny_bind (wpAny_cRoomFor hu ?_))
  rw [cmpInfo_NotEq]
  dsimp only
  refine wpAny_bind (I.type.here (wpAny_bind (hb.here ?_)))
  split
  · rename_i q
    have e : PySem.W.subIn K tb (.ref C) = some false := by
      rcases Bool.or_eq_true_iff.mp hn with e | e
      · rw [beq_iff_eq.mp e] at q; simp at q
      · exact beq_iff_eq.mp e
    refine wpAny_bind ((PySem.W.looks_subIn X e).here ?_)
    simp only [Bool.false_eq_true, if_false]
    refine wpAny_bind (wpAny_mono one (fun r s' z => ?_) fun _ _ e => e)
    obtain ⟨v, rfl, hq⟩ := z
    exact wpAny_pure hq
  · refine wpAny_bind (wpAny_pure ?_)
    simp only [Bool.false_eq_true, if_false]
    refine wpAny_bind (wpAny_mono one (fun r s' z => ?_) fun _ _ e => e)
    obtain ⟨v, rfl, hq⟩ := z
    exact wpAny_pure hq
end
section
variable {X : Cx} {k : Nat} {f C : Addr} {fd : FuncData} {ps : List Str} {sp : Sp}
theorem op_ownNe (F : FnOk X.prog X.w X.K X.mg X.base CX0 k f fd ps sp) (hm : PySem.W.mroIn X.K C (.type "object") = some true) (hne : PySem.W.findIn X.K (.ref C) "__ne__" = some (some (.builtin "object.__ne__"))) (hs : PySem.W.findIn X.K (.ref C) "__eq__" = some (some (.ref f))) (hf : PySem.W.isFn X.K (.ref f) = true) (hb : Binds X.K fd ps []) (hr : Room (k + 1) X.A) :
    OpR X (compareOp .NotEq) (rOwn X.K C sp true) := by
  intro pins s σ H x y v u Q I rx ry hq
  obtain ⟨a, dx, fs, t, rfl, ha, ty, nf, q⟩ := hq
  obtain ⟨P, Z, p, _⟩ := kit_of I ry ty
  cases rx
  obtain ⟨mA, J, _⟩ := ins_get I.hok ha
  obtain ⟨od, J, _⟩ := J.look
  obtain ⟨m, hF⟩ := I.fr
  have sb : Sub X (k + 1) X.A := ⟨hr, rfl⟩
  show wpAny (model X.prog X.w) X.A (richCompare .NotEq (.ref a) u) (EP X pins σ Q) X.xe s
  refine ne_K (tb := t) hr.units0 sb.in1.room.units0 hF I.ok.mod.kin J (Z.ty _ _ I.kIn p) nf hm hne hs hf ?_
  refine wpAny_mono (run_sub sb.in1 F hb I (show Vals [V.ref a, y] [Value.ref a, u] from .cons rfl (.cons ry .nil)) q) (fun r s' z => ?_) fun _ _ x => x
  obtain ⟨v, H', I', rv, b, rfl, qq⟩ := z
  cases rv
  exact ⟨b, rfl, .bl (!b), H', I', rfl, qq⟩
/-- len(x), x's class has its own __len__ -/
theorem call_lenOwn (F : FnOk X.prog X.w X.K X.mg X.base CX0 k f fd ps sp) (hs : PySem.W.findIn X.K (.ref C) "__len__" = some (some (.ref f))) (hf : PySem.W.isFn X.K (.ref f) = true) (hb : Binds X.K fd ps []) (hr : Room (k + 1) X.A) :
    CallR X (.builtin "len") (fun xs H Q => ∃ (a dx : Addr) (fs : List (Str × V)), xs = [.ref a] ∧ H a = some (.ins C dx fs) ∧ sp [.ref a] H (fun v H' => ∃ n : Nat, n < 1000000 ∧ v = .int (n : Int) ∧ Q (.int (n : Int)) H') E0) := by
  intro pins s σ H xs us Q I r h
  obtain ⟨a, dx, fs, rfl, ha, q⟩ := h
  rw [Vals.ref1 r]
  obtain ⟨mA, J, _⟩ := ins_get I.hok ha
  obtain ⟨od, J, _⟩ := J.look
  obtain ⟨m, hF⟩ := I.fr
  have sb : Sub X (k + 1) X.A := ⟨hr, rfl⟩
  refine PySem.W.len_K hF I.ok.mod.kin J hs hf ?_
  refine wpAny_mono (run_sub sb.in1 F hb I (show Vals [V.ref a] [Value.ref a] from .cons rfl .nil) q) (fun r s' z => ?_) fun _ _ x => x
  obtain ⟨v, H', I', rv, n, hn, rfl, qq⟩ := z
  obtain ⟨tk, rfl⟩ := rv
  exact ⟨⟨by omega, by omega⟩, .int (n : Int), H', I'.tok _, ⟨_, rfl⟩, qq⟩
end
theorem tyX_tup {K : PySem.W.Frag} {H : Hp} {a : Addr} {xs : List V} (h : SqT K H a xs) : TyX K H (.ref a) (.type "tuple") := by
  rcases h with (h | ⟨o, h⟩) | h
  · exact .base (.tup h)
  · exact .fTuple h
  · obtain ⟨_, its, n, l, hc, _⟩ := h
    exact .kTuple l hc
end Ly
end
section
set_option Elab.async false
set_option linter.all false
set_option maxRecDepth 100000
namespace Ly
open PySem PySem.Spec PyProof.Rows L2
section
variable {X : Cx} {e st : Expr} {te tst : TE} {p2 pos : Pos}
def tBack (K : PySem.W.Frag) (te tst : TE) : TE := fun σ H Q => te σ H fun x H1 => tst σ H1 fun y H2 => y = .int (-1) ∧ ∃ a xs, x = .ref a ∧ SqL K H2 a xs ∧ ∀ p, H2 p = none → Q (.ref p) (upd H2 p (.lst xs.reverse))
theorem pe_back (he : PE X e te) (hst : PE X st tst) : PE X (.Subscript e (.Slice none none (some st) p2) pos) (tBack X.K te tst) := by
  refine ⟨fun pins s σ H Q I h => ?_⟩
  refine Subscript_ (thn (he.run pins s σ H _ I h) fun v s1 hh => ?_)
  obtain ⟨x, H1, I1, r1, q1⟩ := hh
  refine wpAny_Slice ?_
  rw [evalPart_none]
  refine wpAny_pure ?_
  rw [evalPart_some]
  refine wpAny_pure ?_
  refine thn (hst.run pins s1 σ H1 _ I1 q1) fun u s2 hh => ?_
  obtain ⟨y, H2, I2, r2, q2⟩ := hh
  obtain ⟨rfl, a, xs, rfl, hx, q⟩ := q2
  obtain ⟨t, rfl⟩ := r2
  cases r1
  have I4 : Inv X pins σ H2 { s2 with heap := s2.heap.push { cls := .type "slice", data := .fields #[.none, .none, .int (-1) t] } } := I2.kept (t' := s2.toks) fun b ob q => Heap.get?_push_of_some _ q
  obtain ⟨its, r, ht, hz⟩ := I4.list hx
  have hlen := r.length
  show wpAny (model X.prog X.w) X.A (subscriptTail e (.Slice none none (some st) p2) (.ref a) (.ref s2.heap.objs.size)) (EP X pins σ Q) X.xe { s2 with heap := s2.heap.push { cls := .type "slice", data := .fields #[.none, .none, .int (-1) t] } }
  refine tail_any (T := "list") (ops := [.ref a, .ref s2.heap.objs.size]) ht.isList.typeIs slot_list_getitem.lookup ?_ (by with_unfolding_all rfl)
  refine wpAny_getItem_list_slice ht.isList (Heap.IsSliceOf.new ..) .none .none (.int (-1) t) (by decide) ?_ (by rw [List.size_toArray] <;> omega)
  rw [PySem.W.krv_pick]
  refine ⟨.ref _, _, I4.laid (t' := s2.toks) (o := .lst xs.reverse) (fun b ob q => Heap.get?_push_of_some _ q) (Nat.le_refl _) ?_, rfl, q _ (I4.hok.fresh (Nat.le_refl _))⟩
  exact ⟨by rw [List.length_reverse]; exact hz, _, 0, r.reverse, Heap.get?_push_size _ rfl⟩
end
end Ly
end
section
set_option Elab.async false
set_option linter.all false
set_option maxRecDepth 100000
/-! What a text tells: its jobs, walks and gates; ascending lists. -/
namespace Ly
open PySem PySem.Spec PyProof.Rows L2
theorem ltc_anti : ∀ a b : List Nat, ltCps a b = false → ltCps b a = false → a = b
  | [], [], _, _ => rfl
  | [], _ :: _, h, _ => by cases h
  | _ :: _, [], _, h => by cases h
  | a :: r, b :: t, h1, h2 => by
    have h1 : (decide (a < b) || (a == b && ltCps r t)) = false := h1
    have h2 : (decide (b < a) || (b == a && ltCps t r)) = false := h2
    obtain ⟨p1, p2⟩ := Bool.or_eq_false_iff.mp h1
    obtain ⟨q1, q2⟩ := Bool.or_eq_false_iff.mp h2
    have e : a = b := by
      have := of_decide_eq_false p1
      have := of_decide_eq_false q1
      omega
    subst e
    rw [beq_self_eq_true, Bool.true_and] at p2 q2
    rw [ltc_anti r t p2 q2]
theorem ltc_trans : ∀ a b c : List Nat, ltCps a b = false → ltCps b c = false → ltCps a c = false
  | [], [], c, _, h => h
  | [], _ :: _, _, h, _ => by cases h
  | _ :: _, _, [], _, _ => rfl
  | _ :: _, [], _ :: _, _, h => by cases h
  | a :: r, b :: t, c :: u, h1, h2 => by
    have h1 : (decide (a < b) || (a == b && ltCps r t)) = false := h1
    have h2 : (decide (b < c) || (b == c && ltCps t u)) = false := h2
    show (decide (a < c) || (a == c && ltCps r u)) = false
    obtain ⟨p1, p2⟩ := Bool.or_eq_false_iff.mp h1
    obtain ⟨q1, q2⟩ := Bool.or_eq_false_iff.mp h2
    have p1 := of_decide_eq_false p1
    have q1 := of_decide_eq_false q1
    rw [decide_eq_false (by omega), Bool.false_or]
    by_cases e : a = c
    · have e1 : a = b := by omega
      have e2 : b = c := by omega
      rw [e1, beq_self_eq_true, Bool.true_and] at p2
      rw [e2, beq_self_eq_true, Bool.true_and] at q2
      rw [ltc_trans r t u p2 q2, Bool.and_false]
    · rw [beq_eq_false_iff_ne.mpr e, Bool.false_and]
theorem rising_all : ∀ (l : List Str) (p : Str), risingS p l = true → ∀ z ∈ l, ltCps z.cps.toList p.cps.toList = false
  | [], _, _, z, h => by cases h
  | x :: r, p, h, z, hz => by
    obtain ⟨h1, h2⟩ := Bool.and_eq_true_iff.mp (show (!ltCps x.cps.toList p.cps.toList && risingS x r) = true from h)
    have h1 : ltCps x.cps.toList p.cps.toList = false := by simpa using h1
    rcases List.mem_cons.mp hz with q | q
    · rw [q]; exact h1
    · exact ltc_trans _ _ _ (rising_all r x h2 z q) h1
theorem rising_tail {x : Str} {r : List Str} (h : risingS x r = true) : sortedS r = true := by
  cases r with
  | nil => rfl
  | cons y t =>
    obtain ⟨_, h2⟩ := Bool.and_eq_true_iff.mp (show (!ltCps y.cps.toList x.cps.toList && risingS y t) = true from h)
    exact h2
theorem sorted_unique : ∀ (a b : List Str), sortedS a = true → sortedS b = true → a.Nodup → b.Nodup → (∀ k, k ∈ a ↔ k ∈ b) → a = b
  | [], [], _, _, _, _, _ => rfl
  | [], y :: b, _, _, _, _, h => absurd ((h y).mpr List.mem_cons_self) (by simp)
  | x :: a, [], _, _, _, _, h => absurd ((h x).mp List.mem_cons_self) (by simp)
  | x :: a, y :: b, sa, sb, na, nb, h => by
    have sa : risingS x a = true := sa
    have sb : risingS y b = true := sb
    have e : x = y := by
      rcases List.mem_cons.mp ((h x).mp List.mem_cons_self) with q | q
      · exact q
      rcases List.mem_cons.mp ((h y).mpr List.mem_cons_self) with p | p
      · exact p.symm
      · exact PySem.Str.ext' (Array.toList_inj.mp (ltc_anti _ _ (rising_all b y sb x q) (rising_all a x sa y p)))
    subst e
    have na := List.nodup_cons.mp na
    have nb := List.nodup_cons.mp nb
    rw [sorted_unique a b (rising_tail sa) (rising_tail sb) na.2 nb.2 fun k => ⟨fun q => ?_, fun q => ?_⟩]
    · rcases List.mem_cons.mp ((h k).mp (List.mem_cons_of_mem _ q)) with p | p
      · rw [p] at q; exact absurd q na.1
      · exact p
    · rcases List.mem_cons.mp ((h k).mpr (List.mem_cons_of_mem _ q)) with p | p
      · rw [p] at q; exact absurd q nb.1
      · exact p
/-- the names behind rows with one of these words -/
def nmIn (ws rows : List Str) : List Str := (rows.filter fun r => ws.any (· == (Txt.split r " ").getD 0 "")).map fun r => (Txt.split r " ").getD 1 ""
theorem nmIn_cons (ws : List Str) (r : Str) (rows : List Str) : nmIn ws (r :: rows) = (if ws.any (· == (Txt.split r " ").getD 0 "") = true then [(Txt.split r " ").getD 1 ""] else []) ++ nmIn ws rows := by
  unfold nmIn
  rw [List.filter_cons]
  split <;> rfl
def pend (z : Str) (stk : List (List Str)) : List Str := if (stk.headD []).getD 0 "" = z then [(stk.headD []).getD 1 ""] else []
def told (z : Str) (ls : LSt) : List Str := (if z = "job" then ls.tj else ls.tw) ++ pend z ls.stk
theorem pend_nil {z : Str} (hz : z = "job" ∨ z = "walk") : pend z [] = [] := by
  rcases hz with rfl | rfl <;> exact if_neg (by decide +kernel)
theorem pend_head {z : Str} {x : List Str} {s t : List (List Str)} : pend z (x :: s) = pend z (x :: t) := rfl
theorem step_told {ls : LSt} {ps : List Str} {z : Str} (W : Wf ls) (hb : lBad ls.stk ls.tw ls.tj ps = false) (hz : z = "job" ∨ z = "walk") : told z (lStep ls ps) = told z ls ++ (if ps.getD 0 "" = z then [ps.getD 1 ""] else []) := by
  by_cases hd : ps.getD 0 "" = "walk" ∨ ps.getD 0 "" = "job"
  · obtain ⟨e, l2⟩ := bad_define hb hd
    obtain ⟨a, b, rfl⟩ : ∃ a b, ps = [a, b] := by
      match ps, l2 with
      | [a, b], _ => exact ⟨a, b, rfl⟩
    have hd' : a = "job" ∨ a = "walk" := hd.symm
    rw [step_def hd']
    unfold told
    rw [e, pend_nil hz, List.append_nil]
    rfl
  · have ne := bad_block hb hd
    have hz2 : ps.getD 0 "" ≠ z := fun q => hd (by rcases hz with h | h; exact .inr (q.trans h); exact .inl (q.trans h))
    rw [if_neg hz2, List.append_nil]
    obtain ⟨f0, r0, e⟩ : ∃ f0 r0, ls.stk = f0 :: r0 := by
      cases q : ls.stk with
      | nil => exact absurd q ne
      | cons a b => exact ⟨a, b, rfl⟩
    have hd0 := W.hd f0 r0 e
    by_cases he : endsL.any (· == ps.getD 0 "") = true
    · have b1 := bad_ends hb he
      obtain ⟨o1, _, o2⟩ := ends_not he
      have e1 : lStep ls ps = lClose ls (ps.getD 0 "") := by
        unfold lStep lOpen
        rw [if_neg o2, o1, if_neg Bool.false_ne_true]
      rw [e1]
      generalize ps.getD 0 "" = w at he b1
      unfold lClose
      rw [if_pos he]
      dsimp only
      by_cases ce : w = "end"
      · rw [if_pos ce, List.append_nil]
        cases r0 with
        | nil =>
          rw [e]
          show told z (if (f0.getD 0 "" = "walk") then { ls with stk := [], tw := ls.tw ++ [f0.getD 1 ""] } else { ls with stk := [], tj := ls.tj ++ [f0.getD 1 ""] }) = _
          rcases hd0 with q | q
          · rw [if_pos q]
            unfold told
            rw [e]
            dsimp only
            rw [pend_nil hz, List.append_nil]
            rcases hz with rfl | rfl
            · rw [if_pos rfl]
              show ls.tj = ls.tj ++ (if f0.getD 0 "" = "job" then [f0.getD 1 ""] else [])
              rw [if_neg (by rw [q]; decide +kernel), List.append_nil]
            · rw [if_neg (by decide +kernel), if_neg (by decide +kernel)]
              show ls.tw ++ [f0.getD 1 ""] = ls.tw ++ (if f0.getD 0 "" = "walk" then [f0.getD 1 ""] else [])
              rw [if_pos q]
          · rw [if_neg (by rw [q]; decide +kernel)]
            unfold told
            rw [e]
            dsimp only
            rw [pend_nil hz, List.append_nil]
            rcases hz with rfl | rfl
            · rw [if_pos rfl, if_pos rfl]
              show ls.tj ++ [f0.getD 1 ""] = ls.tj ++ (if f0.getD 0 "" = "job" then [f0.getD 1 ""] else [])
              rw [if_pos q]
            · rw [if_neg (by decide +kernel), if_neg (by decide +kernel)]
              show ls.tw = ls.tw ++ (if f0.getD 0 "" = "walk" then [f0.getD 1 ""] else [])
              rw [if_neg (by rw [q]; decide +kernel), List.append_nil]
        | cons g t =>
          rw [e]
          show told z { ls with stk := f0 :: (g :: t).dropLast } = _
          unfold told
          rw [e]
          rfl
      · rw [if_neg ce]
        have hg : lTop ls.stk = "guard" := by
          rw [decide_eq_false ce] at b1
          by_cases q : lTop ls.stk = "guard"
          · exact q
          · rw [decide_eq_false q] at b1; exact absurd rfl b1
        cases r0 with
        | nil =>
          rw [e] at hg
          have hg : f0.getD 0 "" = "guard" := hg
          rcases hd0 with q | q
          · rw [hg] at q; exact absurd q (by decide +kernel)
          · rw [hg] at q; exact absurd q (by decide +kernel)
        | cons g t =>
          rw [e]
          show told z { ls with stk := f0 :: ((g :: t).dropLast ++ [[w]]) } = _
          unfold told
          rw [e]
          rfl
    · have he : endsL.any (· == ps.getD 0 "") = false := Bool.eq_false_iff.mpr he
      unfold lStep lClose
      rw [he, if_neg Bool.false_ne_true]
      have key : ∀ l2 : LSt, l2.stk = ls.stk → l2.tj = ls.tj → l2.tw = ls.tw → told z (lOpen l2 ps) = told z ls := fun l2 a b c => by
        unfold lOpen
        split
        · unfold told
          dsimp only
          rw [a, b, c, e]
          rfl
        · unfold told
          rw [a, b, c]
      split
      · exact key _ rfl rfl rfl
      · exact key _ rfl rfl rfl
theorem go_told {z : Str} (hz : z = "job" ∨ z = "walk") : ∀ (rows : List Str) (i : Nat) (ls ls' : LSt), Wf ls → lGo rows i ls = .ok ls' → told z ls' = told z ls ++ nmIn [z] rows
  | [], i, ls, ls', _, e => by
    cases Except.ok.inj e
    rw [show nmIn [z] [] = [] from rfl, List.append_nil]
  | r :: rows, i, ls, ls', W, e => by
    have e' : (if lBad ls.stk ls.tw ls.tj (Txt.split r " ") = true then (.error i : Except Nat LSt) else lGo rows (i + 1) (lStep ls (Txt.split r " "))) = .ok ls' := e
    cases c : lBad ls.stk ls.tw ls.tj (Txt.split r " ") with
    | true => rw [c, if_pos rfl] at e'; cases e'
    | false =>
      rw [c, if_neg Bool.false_ne_true] at e'
      rw [go_told hz rows (i + 1) _ ls' (wf_keep W c) e', step_told W c hz, nmIn_cons, List.append_assoc]
      congr 2
      by_cases q : (Txt.split r " ").getD 0 "" = z
      · rw [if_pos q, if_pos (by rw [List.any_cons, q, beq_self_eq_true]; rfl)]
      · rw [if_neg q, if_neg]
        rw [List.any_cons, beq_eq_false_iff_ne.mpr (Ne.symm q)]
        exact Bool.false_ne_true
/-- every row passed -/
theorem go_rows : ∀ (rows : List Str) (i : Nat) (ls ls' : LSt), lGo rows i ls = .ok ls' → ∀ r ∈ rows, ∃ stk tw tj, lBad stk tw tj (Txt.split r " ") = false
  | [], _, _, _, _, r, h => by cases h
  | r :: rows, i, ls, ls', e, y, hy => by
    have e' : (if lBad ls.stk ls.tw ls.tj (Txt.split r " ") = true then (.error i : Except Nat LSt) else lGo rows (i + 1) (lStep ls (Txt.split r " "))) = .ok ls' := e
    cases c : lBad ls.stk ls.tw ls.tj (Txt.split r " ") with
    | true => rw [c, if_pos rfl] at e'; cases e'
    | false =>
      rw [c, if_neg Bool.false_ne_true] at e'
      rcases List.mem_cons.mp hy with q | q
      · rw [q]; exact ⟨_, _, _, c⟩
      · exact go_rows rows (i + 1) _ ls' e' y q
theorem bad_gate {stk : List (List Str)} {tw tj ps : List Str} (hb : lBad stk tw tj ps = false) (e : ps.getD 0 "" = "wait" ∨ ps.getD 0 "" = "open") : ps.length = 2 := by
  cases ps with
  | nil => rcases e with e | e <;> exact absurd e (by decide +kernel)
  | cons w tl =>
    cases stk with
    | nil =>
      have : lBad [] tw tj (w :: tl) = true := by
        rcases e with e | e
        · obtain rfl : w = "wait" := e
          rfl
        · obtain rfl : w = "open" := e
          rfl
      rw [this] at hb
      cases hb
    | cons x s =>
      rcases e with e | e
      · obtain rfl : w = "wait" := e
        rw [bad_waitW] at hb
        have := (Bool.or_eq_false_iff.mp hb).1
        simpa using this
      · obtain rfl : w = "open" := e
        rw [bad_openW] at hb
        have := (Bool.or_eq_false_iff.mp hb).1
        simpa using this
theorem take_gates {st st' : RS} {ps : List Str} (h : takeM st ps = some st') : st'.gates = st.gates ++ (if ps.getD 0 "" = "wait" ∨ ps.getD 0 "" = "open" then [ps.getD 1 ""] else []) := by
  unfold takeM at h
  split at h
  · cases h
  · split at h
    · rename_i _ q
      rw [def_many h, if_neg, List.append_nil]
      rcases q with q | q <;> rw [q] <;> decide +kernel
    · split at h
      · cases h
      · split at h
        · rename_i _ _ _ q
          have n : ¬ (ps.getD 0 "" = "wait" ∨ ps.getD 0 "" = "open") := by rcases q with q | q <;> rw [q] <;> decide +kernel
          rw [if_neg n, List.append_nil]
          unfold markM at h
          split at h
          · cases h
          · cases Option.some.inj h; rfl
        · split at h
          · rename_i _ _ _ _ q
            have n : ¬ (ps.getD 0 "" = "wait" ∨ ps.getD 0 "" = "open") := by rw [q]; decide +kernel
            rw [if_neg n, List.append_nil]
            unfold endM at h
            split at h
            · cases h
            · split at h
              · cases Option.some.inj h; rfl
              · split at h
                · cases Option.some.inj h; rfl
                · cases Option.some.inj h; rfl
          · unfold addM at h
            split at h
            · cases h
            · cases Option.some.inj h
              show (if ps.getD 0 "" = "wait" ∨ ps.getD 0 "" = "open" then st.gates ++ [(nodeOf ps).name] else st.gates) = _
              by_cases q : ps.getD 0 "" = "wait" ∨ ps.getD 0 "" = "open"
              · rw [if_pos q, if_pos q]
                congr 2
                show (if ps.getD 0 "" = "repeat" then ("" : Str) else if 1 < ps.length then ps.getD 1 "" else "") = _
                rw [if_neg (by rcases q with q | q <;> rw [q] <;> decide +kernel)]
                split
                · rfl
                · rw [List.getD_eq_getElem?_getD, List.getElem?_eq_none (by omega)]
                  rfl
              · rw [if_neg q, if_neg q, List.append_nil]
theorem go_gates : ∀ (rows : List Str) (i : Nat) (st st' : RS), goM rows i st = .ok st' → st'.gates = st.gates ++ nmIn ["wait", "open"] rows
  | [], _, st, st', e => by
    cases Except.ok.inj e
    rw [show nmIn ["wait", "open"] [] = [] from rfl, List.append_nil]
  | r :: rows, i, st, st', e => by
    unfold goM at e
    split at e
    · cases e
    · rename_i s1 e1
      rw [go_gates rows (i + 1) s1 st' e, take_gates e1, nmIn_cons, List.append_assoc]
      congr 2
      generalize (Txt.split r " ").getD 0 "" = w
      by_cases q : w = "wait" ∨ w = "open"
      · rw [if_pos q, if_pos]
        rcases q with q | q <;> rw [q] <;> decide +kernel
      · rw [if_neg q, if_neg]
        rw [List.any_cons, List.any_cons, beq_eq_false_iff_ne.mpr fun z => q (.inl z.symm), beq_eq_false_iff_ne.mpr fun z => q (.inr z.symm)]
        exact Bool.false_ne_true
/-- what reading comes to, of rows that the law's reader takes -/
structure Told (rows : List Str) (st : RS) : Prop where
  ok : readM rows = .ok st
  jobs : st.jobs.map (·.1) = nmIn ["job"] rows
  walks : st.walks.map (·.1) = nmIn ["walk"] rows
  gates : st.gates = nmIn ["wait", "open"] rows
  j6 : (nmIn ["job"] rows).length ≤ 6
  w6 : (nmIn ["walk"] rows).length ≤ 6
  two : ∀ r ∈ rows, (["job", "walk", "wait", "open"] : List Str).any (· == (Txt.split r " ").getD 0 "") = true → (Txt.split r " ").length = 2
theorem told_of {rows : List Str} (h : Reads rows) : ∃ st, Told rows st := by
  unfold Reads at h
  rcases go_alike keeps rows 0 _ _ rel_start with ⟨j, h1, h2⟩ | ⟨st, ls, h1, h2, R⟩
  · unfold lDue at h
    rw [h2] at h
    cases (Prod.mk.inj h).2
  have A := R.alike
  unfold lDue at h
  rw [h2] at h
  dsimp only at h
  cases hs : ls.stk.isEmpty with
  | false =>
    rw [hs, if_pos rfl] at h
    cases (Prod.mk.inj h).2
  | true =>
    rw [hs, if_neg (by decide)] at h
    have hs : ls.stk = [] := List.isEmpty_iff.mp hs
    cases hf : ((("main" : Str) :: ls.bg).find? fun z => !ls.tj.any (· == z)) with
    | some z =>
      rw [hf] at h
      exact absurd (Prod.mk.inj h).1 (by decide +kernel)
    | none =>
      rw [hf] at h
      have hz : lSizes ls rows.length = "none" := V.str.inj (Prod.mk.inj h).2
      have hn : namesM st = none := by
        rw [← hf]
        unfold namesM
        rw [A.begun, ← A.jobs]
        congr 1
        funext z
        rw [hasN_any]
      unfold lSizes at hz
      by_cases c1 : 100 < rows.length
      · rw [if_pos c1] at hz; exact absurd hz (by decide +kernel)
      rw [if_neg c1] at hz
      by_cases c2 : 6 < ls.tj.length
      · rw [if_pos c2] at hz; exact absurd hz (by decide +kernel)
      rw [if_neg c2] at hz
      by_cases c3 : 6 < ls.tw.length
      · rw [if_pos c3] at hz; exact absurd hz (by decide +kernel)
      rw [if_neg c3] at hz
      by_cases c4 : 6 < ls.dp
      · rw [if_pos c4] at hz; exact absurd hz (by decide +kernel)
      have ej : st.jobs.length = ls.tj.length := by rw [← A.jobs, List.length_map]
      have ew : st.walks.length = ls.tw.length := by rw [← A.walks, List.length_map]
      have t1 := go_told (.inl rfl : ("job" : Str) = "job" ∨ ("job" : Str) = "walk") rows 0 _ _ wf_start h2
      have t2 := go_told (.inr rfl : ("walk" : Str) = "job" ∨ ("walk" : Str) = "walk") rows 0 _ _ wf_start h2
      have e1 : ls.tj = nmIn ["job"] rows := by
        have : told "job" ls = ls.tj := by unfold told; rw [hs, pend_nil (.inl rfl), List.append_nil]; rfl
        rw [this] at t1
        rw [t1]
        show ([] ++ pend "job" []) ++ _ = _
        rw [pend_nil (.inl rfl)]
        rfl
      have e2 : ls.tw = nmIn ["walk"] rows := by
        have : told "walk" ls = ls.tw := by unfold told; rw [hs, pend_nil (.inr rfl), List.append_nil, if_neg (by decide +kernel)]
        rw [this] at t2
        rw [t2]
        unfold told
        rw [if_neg (by decide +kernel)]
        show ([] ++ pend "walk" []) ++ _ = _
        rw [pend_nil (.inr rfl)]
        rfl
      refine ⟨st, ?_, A.jobs.trans e1, A.walks.trans e2, (go_gates rows 0 _ _ h1).trans rfl, by rw [← e1]; omega, by rw [← e2]; omega, fun r hr q => ?_⟩
      · unfold readM endRows limitsM
        rw [h1]
        dsimp only
        rw [if_neg (fun z => z (A.stk.mpr hs)), hn]
        dsimp only
        rw [if_neg c1, if_neg (by rw [ej]; exact c2), if_neg (by rw [ew]; exact c3), if_neg (by rw [A.deep]; exact c4)]
      · obtain ⟨stk, tw, tj, hb⟩ := go_rows rows 0 _ _ h2 r hr
        generalize Txt.split r " " = ps at q hb
        obtain ⟨y, hy, e⟩ := List.any_eq_true.mp q
        have e : y = ps.getD 0 "" := eq_of_beq e
        rcases List.mem_cons.mp hy with p | hy
        · exact (bad_define hb (.inr (e.symm.trans p))).2
        rcases List.mem_cons.mp hy with p | hy
        · exact (bad_define hb (.inl (e.symm.trans p))).2
        rcases List.mem_cons.mp hy with p | hy
        · exact bad_gate hb (.inl (e.symm.trans p))
        · exact bad_gate hb (.inr (e.symm.trans (List.mem_singleton.mp hy)))
end Ly
end
section
set_option Elab.async false
set_option linter.all false
set_option maxRecDepth 100000
/-! == and len of programs; drawn texts. -/
namespace Ly
open PySem PySem.Spec PyProof.Rows L2
/-! ### programs: == and len -/
theorem tup_eqD {K : PySem.W.Frag} {H : Hp} {a : Addr} {zs : List Str} (h : SqT K H a (zs.map V.str)) (hp : ∀ z ∈ zs, Pln z) : Dp K H (.ref a) (.tuple (zs.map PyData.str)) ∧ SeqAt.shaped (.tuple (zs.map PyData.str)) = true := by
  obtain ⟨d2, d3⟩ := shaped_strs zs hp
  refine ⟨.tup h (dp_strs zs), ?_⟩
  show (PyData.canLayAll0 _ && decide (PyData.depth (.tuple (zs.map PyData.str)) ≤ 64)) = true
  rw [d2, Bool.true_and]
  refine decide_eq_true ?_
  unfold PyData.depth
  rw [d3]
  decide
section
variable {P : Program} {w : World} {K : PySem.W.Frag} {mg : Str → Option Value} {base : Heap} {CP CR CS : Addr}
def spPEq (K : PySem.W.Frag) (CP : Addr) : Sp := fun vs H Q _ => ∃ (p dx ra : Addr) (fs : List (Str × V)) (rows : List Str) (y : V) (t : Value) (c : Bool), vs = [.ref p, y] ∧ H p = some (.ins CP dx fs) ∧ fs.lookup ("rows" : Str) = some (.ref ra) ∧ SqT K H ra (rows.map V.str) ∧ (∀ z ∈ rows, Pln z) ∧ TyX K H y t ∧ PySem.W.kitOne K t (.ref CP) = some c ∧
  (c = false → Q (.bl false) H) ∧ (c = true → ∃ (q dy rb : Addr) (gs : List (Str × V)) (rows2 : List Str), y = .ref q ∧ H q = some (.ins CP dy gs) ∧ gs.lookup ("rows" : Str) = some (.ref rb) ∧ SqT K H rb (rows2.map V.str) ∧ (∀ z ∈ rows2, Pln z) ∧ Q (.bl (rows == rows2)) H)
theorem sc_peq : FnScope ["self", "other"] ["self", "other"] (defScope t_Program_eq) := ⟨rfl, rfl, rfl, by decide +kernel, rfl, by decide +kernel, by decide +kernel⟩
theorem ok_peq {f : Addr} {fd : FuncData} (F : Fun K "__eq__" "Program.__eq__" t_Program_eq f fd) (B : Bt mg) (G : PgC K mg CP) : FnOk P w K mg base CX0 1 f fd ["self", "other"] (spPEq K CP) := by
  refine F.ok sc_peq (fun vs H Q E h => ?_) (fun cdv A outer s H vs Q E hr h => ?_)
  · obtain ⟨p, dx, ra, fs, rows, y, t, c, rfl, _⟩ := h
    rfl
  · obtain ⟨p, dx, ra, fs, rows, y, t, c, rfl, hp, hl, hq, pl, ty, kt, k0, k1⟩ := h
    have hu : (A.deeper (envOfC "Program.__eq__" (defScope t_Program_eq) s.heap.objs.size f cdv)).units + 64 < cLine := hr.units
    refine ⟨_, pss_one (ps_ret (pe_and (pe_callB call_isi rfl B.isi PyProof.Rows.boot_isinstance (pa_cons (pv 1) (pa_cons (pgR G.g) pa_nil))) (pe_one (pe_cmpR (op_eqD hu) (pe_fld (pv 0) rfl) (pe_fld (pv 1) rfl) (nomark _))))), ?_⟩
    refine ⟨_, rfl, y, .ref CP, t, .ref CP, c, rfl, .own CP, ty, kt, ?_⟩
    cases c with
    | false => exact ⟨false, rfl, k0 rfl⟩
    | true =>
      obtain ⟨q, dy, rb, gs, rows2, rfl, hq2, hl2, hs2, pl2, k⟩ := k1 rfl
      obtain ⟨d1, e1⟩ := tup_eqD hq pl
      obtain ⟨d2, e2⟩ := tup_eqD hs2 pl2
      refine ⟨true, rfl, _, rfl, p, CP, dx, fs, _, rfl, hp, G.cl, G.r, hl, _, rfl, q, CP, dy, gs, _, rfl, hq2, G.cl, G.r, hl2, .tuple (rows.map PyData.str), .tuple (rows2.map PyData.str), d1, d2, e1, e2, ?_⟩
      rw [show PyData.eqv (.tuple (rows.map PyData.str)) (.tuple (rows2.map PyData.str)) = (rows == rows2) from eqvAll_strs rows rows2]
      exact k
def spPLen (K : PySem.W.Frag) (CP : Addr) : Sp := fun vs H Q _ => ∃ (p dx ra : Addr) (fs : List (Str × V)) (rows : List Str), vs = [.ref p] ∧ H p = some (.ins CP dx fs) ∧ fs.lookup ("rows" : Str) = some (.ref ra) ∧ SqT K H ra (rows.map V.str) ∧ Q (.int (rows.length : Int)) H
theorem sc_plen : FnScope ["self"] ["self"] (defScope t_Program_len) := ⟨rfl, rfl, rfl, by decide +kernel, rfl, by decide +kernel, by decide +kernel⟩
theorem ok_plen {f : Addr} {fd : FuncData} (F : Fun K "__len__" "Program.__len__" t_Program_len f fd) (B : Bt mg) (G : PgC K mg CP) : FnOk P w K mg base CX0 1 f fd ["self"] (spPLen K CP) := by
  refine F.ok sc_plen (fun vs H Q E h => ?_) (fun cdv A outer s H vs Q E hr h => ?_)
  · obtain ⟨p, dx, ra, fs, rows, rfl, _⟩ := h
    rfl
  · obtain ⟨p, dx, ra, fs, rows, rfl, hp, hl, hq, k⟩ := h
    refine ⟨_, pss_one (ps_ret (pLenQ B.len (pe_fld (pv 0) rfl))), ?_⟩
    refine ⟨_, rfl, p, CP, dx, fs, _, rfl, hp, G.cl, G.r, hl, ra, _, rfl, .inr hq, ?_⟩
    rw [List.length_map]
    exact k
end
/-! ### a drawn text -/
theorem few_same {xs : List Str} {n : Str} (h : ∀ x ∈ xs, x = n) (hl : xs.length < 1000) : Few xs := by
  cases xs with
  | nil => exact few_of (by decide)
  | cons x r =>
    have hx := h x List.mem_cons_self
    refine ⟨hl, [x], (show 1 < 64 by decide), fun k => ⟨fun q => by rw [List.mem_singleton.mp q]; exact List.mem_cons_self, fun q => List.mem_singleton.mpr ?_⟩⟩
    rw [h k q, hx]
theorem nm_mem {ws rows : List Str} {k : Str} (h : k ∈ nmIn ws rows) : ∃ r ∈ rows, ws.any (· == (Txt.split r " ").getD 0 "") = true ∧ (Txt.split r " ").getD 1 "" = k := by
  obtain ⟨r, hr, e⟩ := List.mem_map.mp h
  obtain ⟨h1, h2⟩ := List.mem_filter.mp hr
  exact ⟨r, h1, h2, e⟩
theorem nm_len (ws rows : List Str) : (nmIn ws rows).length ≤ rows.length := by
  unfold nmIn
  rw [List.length_map]
  exact List.length_filter_le _ _
theorem nm_few {rows : List Str} (h : Reads rows) (hh : hc rows < 64) : Few (nmIn ["wait", "open"] rows) := by
  obtain ⟨st, T⟩ := told_of h
  have ok := T.ok
  unfold readM at ok
  split at ok
  · cases ok
  · rename_i s1 e1
    have hg := go_many _ 0 RS.start s1 e1
    have e2 := go_gates _ 0 RS.start s1 e1
    have e2 : s1.gates = nmIn ["wait", "open"] rows := e2
    rw [← e2]
    refine few_of ?_
    have : (RS.start).gates.length = 0 := rfl
    omega
structure TextR (rows : List Str) : Prop where
  rw : ∀ z ∈ rows, Rw 30 z
  len : rows.length ≤ 100
  pos : 0 < rows.length
  few : Few (nmIn ["wait", "open"] rows)
  reads : Reads rows
section
variable {P : Program} {w : World} {K : PySem.W.Frag} {mg : Str → Option Value} {base : Heap}
theorem ok_deep {ft fp fb fr fs : Addr} {dt dp' db dr ds : FuncData} (B : Bt mg) (GT : FnOk P w K mg base CX0 1 ft dt ["_law_box_here", "_law_many"] spDraw) (aT : mg "_law_take" = some (.ref ft)) (kT : PySem.W.keepIn K (.ref ft) = true) (bT : Binds K dt ["_law_box_here", "_law_many"] [])
    (GP : FnOk P w K mg base CX0 2 fp dp' ["_law_box_here", "_law_items"] spPick) (aP : mg "_law_pick" = some (.ref fp)) (kP : PySem.W.keepIn K (.ref fp) = true) (bP : Binds K dp' ["_law_box_here", "_law_items"] [])
    (FB : Fun K "_law_block" "_law_block" t_law_block fb db) (aB : mg "_law_block" = some (.ref fb)) (kB : PySem.W.keepIn K (.ref fb) = true) (bB : Binds K db fivP [])
    (FR : Fun K "_law_row" "_law_row" t_law_row fr dr) (aR : mg "_law_row" = some (.ref fr)) (kR : PySem.W.keepIn K (.ref fr) = true) (bR : Binds K dr fivP [])
    (FS : Fun K "_law_rows" "_law_rows" t_law_rows fs ds) (aS : mg "_law_rows" = some (.ref fs)) (kS : PySem.W.keepIn K (.ref fs) = true) (bS : Binds K ds fivP []) :
    ∀ d : Nat, FnOk P w K mg base CX0 (3 * d + 2) fb db fivP (spBk d) ∧ FnOk P w K mg base CX0 (3 * d + 4) fs ds fivP (spRws d)
  | 0 => by
    have g0 : FnOk P w K mg base CX0 2 fb db fivP (spBk 0) := FB.ok sc_blk (fun vs H Q E h => nomatch h) (fun cdv A outer s H vs Q E hr h => nomatch h)
    exact ⟨g0, ok_rws 0 FS B GT aT kT bT (ok_row 0 FR B GT aT kT bT GP aP kP bP g0 aB kB bB) aR kR bR⟩
  | d + 1 => by
    obtain ⟨_, hs⟩ := ok_deep B GT aT kT bT GP aP kP bP FB aB kB bB FR aR kR bR FS aS kS bS d
    have g1 : FnOk P w K mg base CX0 (3 * (d + 1) + 2) fb db fivP (spBk (d + 1)) := ok_blk d FB B GT aT kT bT GP aP kP bP hs aS kS bS
    exact ⟨g1, ok_rws (d + 1) FS B GT aT kT bT (ok_row (d + 1) FR B GT aT kT bT GP aP kP bP g1 aB kB bB) aR kR bR⟩
def spText : Sp := fun vs H Q _ => ∃ (b : Addr), vs = [.ref b] ∧ BoxAt H b ∧ ∀ (H' : Hp) (l : Addr) (rows : List Str), BKp b H H' → H' l = some (.lst (rows.map V.str)) → TextR rows → Q (.ref l) H'
def someN : List Str := ["_law_box_here", "_law_jobs", "_law_walks", "_law_most"]
theorem sc_some : FnScope someN ["_law_box_here"] (defScope t_law_some_program) := ⟨rfl, rfl, rfl, by decide +kernel, rfl, by decide +kernel, by decide +kernel⟩
theorem reads_pos {rows : List Str} (h : Reads rows) : 0 < rows.length := by
  cases rows with
  | nil => exact absurd (Prod.mk.inj (show (("unknown" : Str), V.str "main") = (("many" : Str), V.str "none") from h)).1 (by decide +kernel)
  | cons _ _ => exact Nat.succ_pos _
theorem ok_some {f ft fw fp : Addr} {fd dt dw dp' : FuncData} (F : Fun K "_law_some_program" "_law_some_program" t_law_some_program f fd) (B : Bt mg) (GT : FnOk P w K mg base CX0 1 ft dt ["_law_box_here", "_law_many"] spDraw) (aT : mg "_law_take" = some (.ref ft)) (kT : PySem.W.keepIn K (.ref ft) = true) (bT : Binds K dt ["_law_box_here", "_law_many"] [])
    (GW : FnOk P w K mg base CX0 4 fw dw ["_law_box_here", "_law_jobs", "_law_walks"] spWorld) (aW : mg "_law_world" = some (.ref fw)) (kW : PySem.W.keepIn K (.ref fw) = true) (bW : Binds K dw ["_law_box_here", "_law_jobs", "_law_walks"] [])
    (GP : FnOk P w K mg base CX0 17 fp dp' triP spProg) (aP : mg "_law_program" = some (.ref fp)) (kP : PySem.W.keepIn K (.ref fp) = true) (bP : Binds K dp' triP []) :
    FnOk P w K mg base CX0 18 f fd ["_law_box_here"] spText := by
  refine F.ok sc_some (fun vs H Q E h => ?_) (fun cdv A outer s H vs Q E hr h => ?_)
  · obtain ⟨b, rfl, _⟩ := h
    rfl
  · obtain ⟨b, rfl, hb, k⟩ := h
    have nod := sc_some.nd
    have hr1 : Room 1 (A.deeper (envOfC "_law_some_program" (defScope t_law_some_program) s.heap.objs.size f cdv)) := hr.mono (by decide)
    have hr4 : Room 4 (A.deeper (envOfC "_law_some_program" (defScope t_law_some_program) s.heap.objs.size f cdv)) := hr.mono (by decide)
    refine ⟨_, pss_cons (ps_asg (pe_ix ix_list (pe_lst (pa_cons (pe_tup (pa_cons pe_int (pa_cons pe_int (pa_cons pe_int pa_nil)))) (pa_cons (pe_tup (pa_cons pe_int (pa_cons pe_int (pa_cons pe_int pa_nil)))) (pa_cons (pe_tup (pa_cons pe_int (pa_cons pe_int (pa_cons pe_int pa_nil)))) (pa_cons (pe_tup (pa_cons pe_int (pa_cons pe_int (pa_cons pe_int pa_nil)))) pa_nil))))) (pe_call GT hr1 rfl aT kT bT .nil pass0 (pa_cons (pv 0) (pa_cons pe_int pa_nil))) (fun _ _ => rfl))
        (pg_tup rfl (pgs_cons (pg_name (i := 1) nod rfl (Or.inl rfl)) (pgs_cons (pg_name (i := 2) nod rfl (Or.inl rfl)) (pgs_cons (pg_name (i := 3) nod rfl (Or.inl rfl)) pgs_nil)))) rfl)
      (pss_one (ps_ret (pe_call GP hr rfl aP kP bP .nil pass0 (pa_cons (pv 0) (pa_cons (pe_call GW hr4 rfl aW kW bW .nil pass0 (pa_cons (pv 0) (pa_cons (pv 1) (pa_cons (pv 2) pa_nil)))) (pa_cons (pv 3) pa_nil)))))), ?_⟩
    refine seq_cut (t := tAsg _ _) (fun σ' H' => ∃ (jn wn m : Nat), σ' = [some (.ref b), some (.int (jn : Int)), some (.int (wn : Int)), some (.int (m : Int))] ∧ BKp b H H' ∧ ((jn = 6 ∧ wn = 6 ∧ m = 1) ∨ (jn = 6 ∧ wn = 6 ∧ m = 2) ∨ (jn = 3 ∧ wn = 3 ∧ m = 4))) (fun N hN => ?_) ?_
    · refine ⟨by show 3 ≤ sizeLine; decide, fun t1 n1 => ?_⟩
      have s1 := same_new (o := .tup [V.int 6, V.int 6, V.int 1]) n1
      have a1 : upd H t1 (.tup [V.int 6, V.int 6, V.int 1]) t1 = some (.tup [V.int 6, V.int 6, V.int 1]) := upd_same
      have b1 : t1 ≠ b := (hb.ne n1).symm
      generalize upd H t1 (.tup [V.int 6, V.int 6, V.int 1]) = H1 at s1 a1 ⊢
      refine ⟨by show 3 ≤ sizeLine; decide, fun t2 n2 => ?_⟩
      have s2 := same_new (o := .tup [V.int 6, V.int 6, V.int 2]) n2
      have a2 : upd H1 t2 (.tup [V.int 6, V.int 6, V.int 2]) t2 = some (.tup [V.int 6, V.int 6, V.int 2]) := upd_same
      have b2 : t2 ≠ b := ((hb.same s1).ne n2).symm
      have a1 := s2 _ _ a1
      have s2 := s1.trans s2
      generalize upd H1 t2 (.tup [V.int 6, V.int 6, V.int 2]) = H2 at s2 a1 a2 ⊢
      refine ⟨by show 3 ≤ sizeLine; decide, fun t3 n3 => ?_⟩
      have s3 := same_new (o := .tup [V.int 3, V.int 3, V.int 4]) n3
      have a3 : upd H2 t3 (.tup [V.int 3, V.int 3, V.int 4]) t3 = some (.tup [V.int 3, V.int 3, V.int 4]) := upd_same
      have b3 : t3 ≠ b := ((hb.same s2).ne n3).symm
      have a1 := s3 _ _ a1
      have a2 := s3 _ _ a2
      have s3 := s2.trans s3
      generalize upd H2 t3 (.tup [V.int 3, V.int 3, V.int 4]) = H3 at s3 a1 a2 a3 ⊢
      refine ⟨by show 3 ≤ sizeLine; decide, fun t4 n4 => ?_⟩
      have s4 := same_new (o := .tup [V.int 3, V.int 3, V.int 4]) n4
      have a4 : upd H3 t4 (.tup [V.int 3, V.int 3, V.int 4]) t4 = some (.tup [V.int 3, V.int 3, V.int 4]) := upd_same
      have b4 : t4 ≠ b := ((hb.same s3).ne n4).symm
      have a1 := s4 _ _ a1
      have a2 := s4 _ _ a2
      have a3 := s4 _ _ a3
      have s4 := s3.trans s4
      generalize upd H3 t4 (.tup [V.int 3, V.int 3, V.int 4]) = H4 at s4 a1 a2 a3 a4 ⊢
      refine ⟨by show 4 ≤ sizeLine; decide, fun p np => ?_⟩
      have s5 := same_new (o := .lst [V.ref t1, V.ref t2, V.ref t3, V.ref t4]) np
      have hp : upd H4 p (.lst [V.ref t1, V.ref t2, V.ref t3, V.ref t4]) p = some (.lst [V.ref t1, V.ref t2, V.ref t3, V.ref t4]) := upd_same
      have bp : p ≠ b := ((hb.same s4).ne np).symm
      have a1 := s5 _ _ a1
      have a2 := s5 _ _ a2
      have a3 := s5 _ _ a3
      have a4 := s5 _ _ a4
      have s5 := s4.trans s5
      generalize upd H4 p (.lst [V.ref t1, V.ref t2, V.ref t3, V.ref t4]) = H5 at s5 a1 a2 a3 a4 hp ⊢
      refine ⟨_, rfl, b, _, rfl, hb.same s5, by decide, by decide, fun H6 r k6 h6 => ?_⟩
      have k7 : BKp b H H6 := ((BKp.refl hb).same s5).trans k6
      have h4 : r < 4 := by omega
      match r, h4 with
      | 0, _ => exact ⟨p, _, _, _, rfl, rfl, SqL.of (k6.keep _ _ bp hp), atI_nat rfl, t1, _, rfl, SqT.of (k6.keep _ _ b1 a1), rfl, _, _, rfl, _, _, rfl, _, _, rfl, ⟨rfl, hN _ _ ⟨6, 6, 1, rfl, k7, .inl ⟨rfl, rfl, rfl⟩⟩⟩⟩
      | 1, _ => exact ⟨p, _, _, _, rfl, rfl, SqL.of (k6.keep _ _ bp hp), atI_nat rfl, t2, _, rfl, SqT.of (k6.keep _ _ b2 a2), rfl, _, _, rfl, _, _, rfl, _, _, rfl, ⟨rfl, hN _ _ ⟨6, 6, 2, rfl, k7, .inr (.inl ⟨rfl, rfl, rfl⟩)⟩⟩⟩
      | 2, _ => exact ⟨p, _, _, _, rfl, rfl, SqL.of (k6.keep _ _ bp hp), atI_nat rfl, t3, _, rfl, SqT.of (k6.keep _ _ b3 a3), rfl, _, _, rfl, _, _, rfl, _, _, rfl, ⟨rfl, hN _ _ ⟨3, 3, 4, rfl, k7, .inr (.inr ⟨rfl, rfl, rfl⟩)⟩⟩⟩
      | 3, _ => exact ⟨p, _, _, _, rfl, rfl, SqL.of (k6.keep _ _ bp hp), atI_nat rfl, t4, _, rfl, SqT.of (k6.keep _ _ b4 a4), rfl, _, _, rfl, _, _, rfl, _, _, rfl, ⟨rfl, hN _ _ ⟨3, 3, 4, rfl, k7, .inr (.inr ⟨rfl, rfl, rfl⟩)⟩⟩⟩
    rintro σ0 H1 ⟨jn, wn, m, rfl, k1, hc⟩
    refine ⟨_, rfl, _, rfl, _, rfl, _, rfl, b, jn, wn, rfl, k1.box, by omega, by omega, by omega, fun H2 wd W L k2 nw G2 w0 lk lj lw dj dw mj => ?_⟩
    refine ⟨_, rfl, b, wd, m, W, L, rfl, G2, by omega, lk, by omega, by omega, dj, dw, mj, ?_, ?_, fun H3 l rows hb3 kw nl hl rz lz hz rd => ?_⟩
    · rcases hc with ⟨rfl, rfl, rfl⟩ | ⟨rfl, rfl, rfl⟩ | ⟨rfl, rfl, rfl⟩ <;> omega
    · rcases hc with ⟨rfl, rfl, rfl⟩ | ⟨rfl, rfl, rfl⟩ | ⟨rfl, rfl, rfl⟩ <;> omega
    · have nwH : H1 wd = none := nw
      exact k H3 l rows (k1.trans ⟨hb3, fun p o np hp => kw p o np (ne_of_none hp nwH) (k2.keep p o np hp)⟩) hl ⟨rz, by omega, reads_pos rd, nm_few rd (by omega), rd⟩
end
end Ly
end
section
set_option Elab.async false
set_option linter.all false
set_option maxRecDepth 100000
set_option maxHeartbeats 1000000
/-! A long text, or a deep one. -/
namespace Ly
open PySem PySem.Spec PyProof.Rows L2
theorem say_eq (z : Str) : ("say " : Str) ++ z = "say" ++ " " ++ z := by
  rw [show (("say" : Str) ++ " " : Str) = "say " by decide +kernel]
theorem open_eq (z : Str) : ("open " : Str) ++ z = "open" ++ " " ++ z := by
  rw [show (("open" : Str) ++ " " : Str) = "open " by decide +kernel]
theorem walk_eq (z : Str) : ("walk " : Str) ++ z = "walk" ++ " " ++ z := by
  rw [show (("walk" : Str) ++ " " : Str) = "walk " by decide +kernel]
theorem each_eq (z : Str) : ("each " : Str) ++ z ++ " dropped" = ("each " : Str) ++ z ++ " " ++ "dropped" ++ "" := by
  rw [app_empty, app_assoc (("each " : Str) ++ z) " " "dropped", show ((" " : Str) ++ "dropped" : Str) = " dropped" by decide +kernel]
theorem main_eq : ("job main" : Str) = "job" ++ " " ++ "main" := by decide +kernel
/-- ninety-eight rows that say or open a name -/
theorem long_text {n : Str} {zs : List Str} (hn : isName n = true) (hl : zs.length = 98) (hz : ∀ z ∈ zs, z = ("say " : Str) ++ n ∨ z = ("open " : Str) ++ n) (g : Good "job" false [] 0 [] ["main"] zs) : TextR ([("job main" : Str)] ++ zs ++ [("end" : Str)]) := by
  have rn := name_rw hn
  have r0 : RI ["main"] [] ["main"] ["main"] [] [] [] := RI.start
  have r1 := RI.job (js := []) (nm := "main") r0 (by simp) (by decide +kernel) g
  have e : ([] : List Str) ++ ((("job" : Str) ++ " " ++ "main") :: zs ++ [("end" : Str)]) = [("job main" : Str)] ++ zs ++ [("end" : Str)] := by rw [main_eq]; rfl
  rw [e] at r1
  have len : ([("job main" : Str)] ++ zs ++ [("end" : Str)]).length = 100 := by
    rw [List.length_append, List.length_append, hl]
    rfl
  have rd : Reads ([("job main" : Str)] ++ zs ++ [("end" : Str)]) := r1.reads (by simp) (fun z h => h) (by omega) (by decide) (by decide)
  refine ⟨fun z hz' => ?_, by omega, by omega, few_same (n := n) (fun x hx => ?_) ?_, rd⟩
  · rcases List.mem_append.mp hz' with q | q
    · rcases List.mem_append.mp q with q | q
      · rw [List.mem_singleton.mp q]; exact rw_of (by decide +kernel)
      · rcases hz z q with q | q
        · rw [q]; exact ((rw_of (n := 4) (r := "say ") (by decide +kernel)).app rn).wider (by decide)
        · rw [q]; exact ((rw_of (n := 5) (r := "open ") (by decide +kernel)).app rn).wider (by decide)
    · rw [List.mem_singleton.mp q]; exact rw_of (by decide +kernel)
  · obtain ⟨r, hr, h1, h2⟩ := nm_mem hx
    rcases List.mem_append.mp hr with q | q
    · rcases List.mem_append.mp q with q | q
      · rw [List.mem_singleton.mp q] at h1
        exact absurd h1 (by decide +kernel)
      · rcases hz r q with q | q
        · rw [q, say_eq, split_two (noBl_of (by decide +kernel)) (name_noBl hn)] at h1
          exact absurd (show (([("wait" : Str), "open"]).any (· == ("say" : Str))) = true from h1) (by decide +kernel)
        · rw [q, open_eq, split_two (noBl_of (by decide +kernel)) (name_noBl hn)] at h2
          exact h2.symm
    · rw [List.mem_singleton.mp q] at h1
      exact absurd h1 (by decide +kernel)
  · exact Nat.lt_of_le_of_lt (nm_len _ _) (by omega)
/-- a row that speaks of no gate -/
def NoGate (r : Str) : Prop := (["wait", "open"] : List Str).any (· == (Txt.split r " ").getD 0 "") = false
theorem no_gates {rows : List Str} (h : ∀ r ∈ rows, NoGate r) : nmIn ["wait", "open"] rows = [] := by
  unfold nmIn
  rw [List.filter_eq_nil_iff.mpr fun r hr => by rw [h r hr]; exact Bool.false_ne_true]
  rfl
def openR (n z : Str) : Prop := z = "repeat 9" ∨ z = "guard" ∨ z = ("each " : Str) ++ n ++ " dropped"
def closeL : List Str := ["late", "mend", "end"]
theorem deep_text {n : Str} {os cl : List Str} (hn : isName n = true) (ho : ∀ z ∈ os, openR n z) (hc : ∀ z ∈ cl, z ∈ closeL) (l1 : os.length = 6) (l2 : cl.length ≤ 12) (g : Good "job" false [] 0 [n] ["main"] (os ++ cl)) :
    TextR ([("walk " : Str) ++ n, "give", "end", "job main"] ++ os ++ cl ++ [("end" : Str)]) := by
  have rn := name_rw hn
  have nb := name_noBl hn
  have r0 : RI ["main"] [n] ["main"] ["main"] [n] [] [] := RI.start
  have r1 := RI.walk (ws := []) (nm := n) (rs := ["give"]) r0 (by simp) hn (good_give rfl rfl)
  have r2 := RI.job (js := []) (nm := "main") r1 (by simp) (by decide +kernel) g
  have e : ([] : List Str) ++ ((("walk" : Str) ++ " " ++ n) :: ["give"] ++ [("end" : Str)]) ++ ((("job" : Str) ++ " " ++ "main") :: (os ++ cl) ++ [("end" : Str)]) = [("walk " : Str) ++ n, "give", "end", "job main"] ++ os ++ cl ++ [("end" : Str)] := by
    rw [← walk_eq, ← main_eq]
    simp [List.append_assoc]
  rw [e] at r2
  have len : ([("walk " : Str) ++ n, "give", "end", "job main"] ++ os ++ cl ++ [("end" : Str)]).length = 11 + cl.length := by
    rw [List.length_append, List.length_append, List.length_append, l1]
    show 4 + 6 + cl.length + 1 = _
    omega
  have rd : Reads ([("walk " : Str) ++ n, "give", "end", "job main"] ++ os ++ cl ++ [("end" : Str)]) := r2.reads (by simp) (fun z h => h) (by omega) (by decide) (by show 1 ≤ 6; decide)
  have sort : ∀ z ∈ [("walk " : Str) ++ n, "give", "end", "job main"] ++ os ++ cl ++ [("end" : Str)], z = ("walk " : Str) ++ n ∨ z = ("each " : Str) ++ n ++ " dropped" ∨ z ∈ (["give", "end", "job main", "repeat 9", "guard", "late", "mend"] : List Str) := by
    intro z hz
    rcases List.mem_append.mp hz with q | q
    · rcases List.mem_append.mp q with q | q
      · rcases List.mem_append.mp q with q | q
        · rcases List.mem_cons.mp q with q | q
          · exact .inl q
          · refine .inr (.inr ?_)
            rcases List.mem_cons.mp q with q | q
            · rw [q]; decide +kernel
            rcases List.mem_cons.mp q with q | q
            · rw [q]; decide +kernel
            · rw [List.mem_singleton.mp q]; decide +kernel
        · rcases ho z q with q | q | q
          · rw [q]; exact .inr (.inr (by decide +kernel))
          · rw [q]; exact .inr (.inr (by decide +kernel))
          · exact .inr (.inl q)
      · refine .inr (.inr ?_)
        rcases List.mem_cons.mp (hc z q) with q | q
        · rw [q]; decide +kernel
        rcases List.mem_cons.mp q with q | q
        · rw [q]; decide +kernel
        · rw [List.mem_singleton.mp q]; decide +kernel
    · rw [List.mem_singleton.mp q]; exact .inr (.inr (by decide +kernel))
  refine ⟨fun z hz => ?_, by omega, by omega, ?_, rd⟩
  · rcases sort z hz with q | q | q
    · rw [q]; exact ((rw_of (n := 5) (r := "walk ") (by decide +kernel)).app rn).wider (by decide)
    · rw [q]; exact (((rw_of (n := 5) (r := "each ") (by decide +kernel)).app rn).app (rw_of (n := 8) (r := " dropped") (by decide +kernel))).wider (by decide)
    · exact rw_all (n := 30) (l := ["give", "end", "job main", "repeat 9", "guard", "late", "mend"]) (by decide +kernel) z q
  · rw [no_gates fun r hr => ?_]
    · exact few_of (by decide)
    · unfold NoGate
      rcases sort r hr with q | q | q
      · rw [q, walk_eq, split_two (noBl_of (by decide +kernel)) nb]
        show (["wait", "open"] : List Str).any (· == ("walk" : Str)) = false
        decide +kernel
      · rw [q, each_eq, app_empty, show ("each " : Str) = "each" ++ " " by decide +kernel, split_three (noBl_of (by decide +kernel)) nb (noBl_of (by decide +kernel))]
        show (["wait", "open"] : List Str).any (· == ("each" : Str)) = false
        decide +kernel
      · have : (["give", "end", "job main", "repeat 9", "guard", "late", "mend"] : List Str).all (fun r => !((["wait", "open"] : List Str).any (· == (Txt.split r " ").getD 0 ""))) = true := by decide +kernel
        have := List.all_eq_true.mp this r q
        simpa using this
section
variable {P : Program} {w : World} {K : PySem.W.Frag} {mg : Str → Option Value} {base : Heap}
def rAddS : R2 := fun x y H Q => ∃ i j, x = .str i ∧ y = .str j ∧ i.length + j.length ≤ sizeLine ∧ Q (.str (i ++ j)) H
def longN : List Str := ["_law_box_here", "_law_name", "_law_turn", "_law_found", "_law_row_here"]
theorem sc_long : FnScope longN ["_law_box_here"] (defScope t_law_long) := ⟨rfl, rfl, rfl, by decide +kernel, rfl, by decide +kernel, by decide +kernel⟩
theorem ok_long {f ft fm : Addr} {fd dt dm : FuncData} (F : Fun K "_law_long" "_law_long" t_law_long f fd) (B : Bt mg) (GT : FnOk P w K mg base CX0 1 ft dt ["_law_box_here", "_law_many"] spDraw) (aT : mg "_law_take" = some (.ref ft)) (kT : PySem.W.keepIn K (.ref ft) = true) (bT : Binds K dt ["_law_box_here", "_law_many"] [])
    (GN : FnOk P w K mg base CX0 3 fm dm ["_law_box_here", "_law_many"] spName8) (aN : mg "_law_names" = some (.ref fm)) (kN : PySem.W.keepIn K (.ref fm) = true) (bN : Binds K dm ["_law_box_here", "_law_many"] []) :
    FnOk P w K mg base CX0 4 f fd ["_law_box_here"] spText := by
  refine F.ok sc_long (fun vs H Q E h => ?_) (fun cdv A outer s H vs Q E hr h => ?_)
  · obtain ⟨b, rfl, _⟩ := h
    rfl
  · obtain ⟨b, rfl, hb, k⟩ := h
    have nod := sc_long.nd
    have hr1 : Room 1 (A.deeper (envOfC "_law_long" (defScope t_law_long) s.heap.objs.size f cdv)) := hr.mono (by decide)
    refine ⟨_, pss_cons (ps_set (i := 1) nod rfl (Or.inr rfl) (pe_ix ix_list (pe_call GN hr rfl aN kN bN .nil pass0 (pa_cons (pv 0) (pa_cons pe_int pa_nil))) pe_int (fun _ _ => rfl)))
      (pss_cons (ps_if (pt_cmpR op_eq (pe_call GT hr1 rfl aT kT bT .nil pass0 (pa_cons (pv 0) (pa_cons pe_int pa_nil))) pe_int (nomark _))
        (pss_one (ps_ret (pe_op op_cat (pe_op op_cat (pe_lst (pa_cons pe_str pa_nil)) (pe_lc (own := [("_law_turn", 2)]) (g := gName 2) (tt := tYes) (te := tOp rAddS (tOp (rIxL K) (tLst (tCons (tC (.str "say ")) (tCons (tC (.str "open ")) tNil))) (tCall spDraw [] E0 (tCons (tVar 0) (tCons (tC (.int 2)) tNil)))) (tVar 1)) (by rfl) nod (pi_range1 rfl B.range (pa_cons pe_int pa_nil)) (blkOk_by (own := [("_law_turn", 2)]) (N := longN) (sc := defScope t_law_long) (by decide +kernel)) (fun _ _ _ _ _ => pg_name (i := 2) nod rfl (Or.inl rfl)) (fun _ _ _ _ _ => pts_nil)
          (fun _ _ _ _ _ => by exact pe_op op_add_str (pe_ix ix_list (pe_lst (pa_cons pe_str (pa_cons pe_str pa_nil))) (pe_call GT hr1 rfl aT kT bT .nil pass0 (pa_cons (pv 0) (pa_cons pe_int pa_nil))) (fun _ _ => rfl)) (pv 1)))) (pe_lst (pa_cons pe_str pa_nil))))) pss_nil)
      (pss_cons (ps_set (i := 3) nod rfl (Or.inl rfl) (pe_lst (pa_cons (pe_op op_add_str pe_str (pv 1)) (pa_cons pe_str (pa_cons pe_str (pa_cons pe_str pa_nil))))))
      (pss_cons (ps_for PassesOwn.never rfl (pi_range1 rfl B.range (pa_cons pe_int pa_nil)) (pg_name (i := 2) nod rfl (Or.inl rfl))
        (pss_one (ps_expr (pAppend (pv 3) (pe_ix ix_list (pe_lst (pa_cons pe_str (pa_cons pe_str (pa_cons (pe_op op_add_str (pe_op op_add_str pe_str (pv 1)) pe_str) pa_nil)))) (pe_call GT hr1 rfl aT kT bT .nil pass0 (pa_cons (pv 0) (pa_cons pe_int pa_nil))) (fun _ _ => rfl))))))
      (pss_cons (ps_for PassesOwn.never rfl (pi_list (pe_back (pe_slice sl_list (pv 3) (po_some pe_int) po_none) (pe_un un_neg pe_int))) (pg_name (i := 4) nod rfl (Or.inl rfl))
        (pss_one (ps_expr (pExtend (pv 3) (pe_op op_cat (pe_op op_rep (pe_lst (pa_cons (pe_ix ix_list (pe_lst (pa_cons pe_str (pa_cons pe_str pa_nil))) (pe_call GT hr1 rfl aT kT bT .nil pass0 (pa_cons (pv 0) (pa_cons pe_int pa_nil))) (fun _ _ => rfl)) pa_nil)) (pe_callTy call_int1 rfl B.int (by decide +kernel) (pa_cons (pe_cmpR op_eq (pv 4) pe_str (nomark _)) pa_nil))) (pe_lst (pa_cons pe_str pa_nil)))))))
      (pss_one (ps_ret (pe_op op_cat (pv 3) (pe_lst (pa_cons pe_str pa_nil))))))))), ?_⟩
    -- its name
    refine seq_cut (t := tAsg _ _) (fun σ' H' => ∃ n : Str, σ' = [some (.ref b), some (.str n), none, none, none] ∧ BKp b H H' ∧ isName n = true) (fun N hN => ?_) ?_
    · refine ⟨_, rfl, b, 1, rfl, hb, by decide, fun H1 l zs k1 n1 N1 => ?_⟩
      obtain ⟨z, rfl⟩ : ∃ z, zs = [z] := by
        match zs, N1.len with
        | [z], _ => exact ⟨z, rfl⟩
      exact ⟨l, _, 0, _, rfl, rfl, SqL.of N1.at_, atI_nat (j := 0) rfl, nx_of (hN _ _ ⟨z, rfl, k1, N1.nm z (List.mem_singleton.mpr rfl)⟩)⟩
    rintro σ0 H1 ⟨n, rfl, k1, nn⟩
    have rn := name_rw nn
    -- ninety-eight rows
    refine seq_cut (t := tIfS _ _ _) (fun σ' H' => σ' = [some (.ref b), some (.str n), none, none, none] ∧ BKp b H H') (fun N hN => ?_) ?_
    · refine ⟨_, rfl, b, _, rfl, k1.box, by decide, by decide, fun H2 r2 k2 h2 => ⟨rfl, _, rfl, ?_⟩⟩
      have k2 := k1.trans k2
      cases c : decide (V.int (r2 : Int) = V.int 0) with
      | false => exact iteF (nx_mk (hN _ _ ⟨rfl, k2⟩))
      | true =>
        refine iteT ?_
        refine ⟨by show 1 ≤ sizeLine; decide, fun p1 np1 => ?_⟩
        have t1 := same_new (o := .lst [V.str "job main"]) np1
        have hp1 : upd H2 p1 (.lst [V.str "job main"]) p1 = some (.lst ([("job main" : Str)].map V.str)) := upd_same
        have b1 : p1 ≠ b := (k2.box.ne np1).symm
        have k3 := k2.same t1
        generalize upd H2 p1 (.lst [V.str "job main"]) = H3 at hp1 k3 ⊢
        refine ⟨98, rfl, by decide, by decide, fun D nD => lc_range (lo := 0) (n := 98) (fun i H' => ∃ zs : List Str, BKp b H H' ∧ H' p1 = some (.lst ([("job main" : Str)].map V.str)) ∧ H' D = some (.lst (zs.map V.str)) ∧ zs.length = i ∧ (∀ z ∈ zs, z = ("say " : Str) ++ n ∨ z = ("open " : Str) ++ n) ∧ Good "job" false [] 0 [] ["main"] zs)
          ⟨[], k3.same (same_new nD), same_new nD _ _ hp1, upd_same, rfl, fun z h => (nomatch h), Good.nil⟩ ?_ ?_⟩
        · rintro i H4 hi ⟨zs, k4, hp4, hD4, lz, hz, gz⟩
          have bD : D ≠ b := (k3.box.ne nD).symm
          have nDH : H D = none := k3.free nD
          have dp : D ≠ p1 := (ne_of_none hp1 nD).symm
          refine ⟨rfl, ?_⟩
          refine ⟨by show 2 ≤ sizeLine; decide, fun q nq => ?_⟩
          have t5 := same_new (o := .lst [V.str "say ", V.str "open "]) nq
          have hq : upd H4 q (.lst [V.str "say ", V.str "open "]) q = some (.lst [V.str "say ", V.str "open "]) := upd_same
          have bq : q ≠ b := (k4.box.ne nq).symm
          have k5 := k4.same t5
          have hp5 := t5 _ _ hp4
          have hD5 := t5 _ _ hD4
          generalize upd H4 q (.lst [V.str "say ", V.str "open "]) = H5 at hq k5 hp5 hD5 ⊢
          refine ⟨_, rfl, b, _, rfl, k5.box, by decide, by decide, fun H6 r6 k6 h6 => ?_⟩
          obtain ⟨z, ez, hz6⟩ : ∃ z : Str, [V.str "say ", V.str "open "][r6]? = some (V.str z) ∧ (z = "say " ∨ z = "open ") := by
            have h2 : r6 < 2 := by omega
            match r6, h2 with
            | 0, _ => exact ⟨"say ", rfl, .inl rfl⟩
            | 1, _ => exact ⟨"open ", rfl, .inr rfl⟩
          have l5 : z.length ≤ 5 := by rcases hz6 with rfl | rfl <;> decide +kernel
          have ln := rn.len
          refine ⟨q, _, _, _, rfl, rfl, SqL.of (k6.keep _ _ bq hq), atI_nat ez, ?_⟩
          refine ⟨_, rfl, _, _, rfl, rfl, by rw [sizeLine_eq]; omega, zs.map V.str, k6.keep _ _ bD hD5, by rw [List.length_map, sizeLine_eq]; omega, zs ++ [z ++ n], (k5.trans k6).laid hb nDH, by rw [upd_ne dp.symm]; exact k6.keep _ _ b1 hp5, by rw [upd_same, List.map_append]; rfl, by rw [List.length_append, lz]; rfl, fun y hy => ?_, gz.app ?_⟩
          · rcases List.mem_append.mp hy with p | p
            · exact hz y p
            · rw [List.mem_singleton.mp p]
              exact hz6.imp (fun e => by rw [e]) (fun e => by rw [e])
          · rcases hz6 with rfl | rfl
            · rw [say_eq]; exact good_word (.inl rfl) nn
            · rw [open_eq]; exact good_word (.inr (.inr (.inl rfl))) nn
        · rintro H4 ⟨zs, k4, hp4, hD4, lz, hz, gz⟩
          refine ⟨p1, D, _, _, rfl, rfl, hp4, hD4, by rw [List.length_map, List.length_map, lz, sizeLine_eq]; decide, fun p2 np2 => ?_⟩
          have t5 := same_new (o := .lst ([("job main" : Str)].map V.str ++ zs.map V.str)) np2
          have hp5 : upd H4 p2 (.lst ([("job main" : Str)].map V.str ++ zs.map V.str)) p2 = some (.lst (([("job main" : Str)] ++ zs).map V.str)) := by rw [upd_same, List.map_append]
          have k5 := k4.same t5
          generalize upd H4 p2 (.lst ([("job main" : Str)].map V.str ++ zs.map V.str)) = H5 at hp5 k5 ⊢
          refine ⟨by show 1 ≤ sizeLine; decide, fun p3 np3 => ?_⟩
          have t6 := same_new (o := .lst [V.str "end"]) np3
          have hp6 : upd H5 p3 (.lst [V.str "end"]) p3 = some (.lst ([("end" : Str)].map V.str)) := upd_same
          have hp5 := t6 _ _ hp5
          have k6 := k5.same t6
          generalize upd H5 p3 (.lst [V.str "end"]) = H6 at hp5 hp6 k6 ⊢
          refine ⟨p2, p3, _, _, rfl, rfl, hp5, hp6, by rw [List.length_map, List.length_map, List.length_append, lz, sizeLine_eq]; decide, fun p4 np4 => ?_⟩
          exact k _ p4 _ (k6.new np4) (by rw [upd_same, ← List.map_append]) (long_text nn lz hz gz)
    rintro σ0 H2 ⟨rfl, k2⟩
    -- a deep text: its first rows
    have ln := rn.len
    have rw5 : ("walk " : Str).length = 5 := by decide +kernel
    have re5 : ("each " : Str).length = 5 := by decide +kernel
    have rd8 : (" dropped" : Str).length = 8 := by decide +kernel
    generalize hbase : [("walk " : Str) ++ n, "give", "end", "job main"] = base0
    have lb : base0.length = 4 := by rw [← hbase]; rfl
    refine seq_cut (t := tAsg _ _) (fun σ' H' => ∃ fo : Addr, σ' = [some (.ref b), some (.str n), none, some (.ref fo), none] ∧ BKp b H H' ∧ H fo = none ∧ H' fo = some (.lst (base0.map V.str))) (fun N hN => ?_) ?_
    · refine ⟨_, rfl, _, _, rfl, rfl, by rw [sizeLine_eq]; omega, by show 4 ≤ sizeLine; decide, fun fo nfo => nx_of (hN _ _ ⟨fo, rfl, k2.new nfo, k2.free nfo, by rw [upd_same, ← hbase]; rfl⟩)⟩
    rintro σ0 H3 ⟨fo, rfl, k3, nfo, hf3⟩
    have bf : fo ≠ b := (hb.ne nfo).symm
    -- six openings
    refine seq_cut (t := tFor _ _ _) (fun σ' H' => ∃ (v2 : Option V) (os : List Str), σ' = [some (.ref b), some (.str n), v2, some (.ref fo), none] ∧ BKp b H H' ∧ H' fo = some (.lst ((base0 ++ os).map V.str)) ∧ os.length = 6 ∧ ∀ z ∈ os, openR n z) (fun N hN => ?_) ?_
    · refine ⟨6, rfl, by decide, by decide, for_range (lo := 0) (n := 6) (fun i σ' H' => ∃ (v2 : Option V) (os : List Str), σ' = [some (.ref b), some (.str n), v2, some (.ref fo), none] ∧ BKp b H H' ∧ H' fo = some (.lst ((base0 ++ os).map V.str)) ∧ os.length = i ∧ ∀ z ∈ os, openR n z)
        ⟨none, [], rfl, k3, by rw [List.append_nil]; exact hf3, rfl, fun z h => (nomatch h)⟩ ?_ ?_⟩
      · rintro i σ' H4 hi ⟨v2, os, rfl, k4, hf4, lo, ho⟩
        refine nx_of ?_
        refine ⟨_, rfl, .inl ⟨rfl, _, SqL.of hf4⟩, _, rfl, _, _, rfl, rfl, by rw [sizeLine_eq]; omega, _, _, rfl, rfl, by rw [sizeLine_eq, Str.length_append]; omega, by show 3 ≤ sizeLine; decide, fun q nq => ?_⟩
        dsimp only
        have t5 := same_new (o := .lst [V.str "repeat 9", V.str "guard", V.str (("each " : Str) ++ n ++ " dropped")]) nq
        have hq : upd H4 q (.lst [V.str "repeat 9", V.str "guard", V.str (("each " : Str) ++ n ++ " dropped")]) q = some (.lst [V.str "repeat 9", V.str "guard", V.str (("each " : Str) ++ n ++ " dropped")]) := upd_same
        have bq : q ≠ b := (k4.box.ne nq).symm
        have k5 := k4.same t5
        have hf5 := t5 _ _ hf4
        generalize upd H4 q (.lst [V.str "repeat 9", V.str "guard", V.str (("each " : Str) ++ n ++ " dropped")]) = H5 at hq k5 hf5 ⊢
        refine ⟨_, rfl, b, _, rfl, k5.box, by decide, by decide, fun H6 r6 k6 h6 => ?_⟩
        obtain ⟨z, ez, hz6⟩ : ∃ z : Str, [V.str "repeat 9", V.str "guard", V.str (("each " : Str) ++ n ++ " dropped")][r6]? = some (V.str z) ∧ openR n z := by
          have h2 : r6 < 3 := by omega
          match r6, h2 with
          | 0, _ => exact ⟨_, rfl, .inl rfl⟩
          | 1, _ => exact ⟨_, rfl, .inr (.inl rfl)⟩
          | 2, _ => exact ⟨_, rfl, .inr (.inr rfl)⟩
        refine ⟨q, _, _, _, rfl, rfl, SqL.of (k6.keep _ _ bq hq), atI_nat ez, fo, _, _, rfl, rfl, k6.keep _ _ bf hf5, by rw [List.length_map, List.length_append, lb, lo, sizeLine_eq]; omega, ?_⟩
        refine ⟨_, os ++ [z], rfl, (k5.trans k6).laid hb nfo, by rw [upd_same, ← List.append_assoc, List.map_append (l₂ := [z])]; rfl, by rw [List.length_append, lo]; rfl, fun y hy => ?_⟩
        rcases List.mem_append.mp hy with p | p
        · exact ho y p
        · rw [List.mem_singleton.mp p]; exact hz6
      · rintro σ' H4 ⟨v2, os, rfl, k4, hf4, lo, ho⟩
        exact hN _ _ ⟨v2, os, rfl, k4, hf4, lo, ho⟩
    rintro σ0 H4 ⟨v2, os, rfl, k4, hf4, lo, ho⟩
    -- their ends
    refine seq_cut (t := tFor _ _ _) (fun σ' H' => ∃ (v4 : Option V) (cl : List Str), σ' = [some (.ref b), some (.str n), v2, some (.ref fo), v4] ∧ BKp b H H' ∧ H' fo = some (.lst ((base0 ++ os ++ cl).map V.str)) ∧ cl.length ≤ 12 ∧ (∀ z ∈ cl, z ∈ closeL) ∧ Good "job" false [] 0 [n] ["main"] (os ++ cl)) (fun N hN => ?_) ?_
    · refine ⟨_, rfl, _, rfl, fo, _, rfl, SqL.of hf4, fun q1 nq1 => ?_⟩
      have ec : cutV ((base0 ++ os).map V.str) (some 4) none = os.map V.str := by
        have := cut_suf (base0 ++ os) 4
        rw [List.drop_append_of_le_length (by omega), List.drop_of_length_le (by omega)] at this
        exact this
      have t5 := same_new (o := .lst (os.map V.str)) nq1
      have hq1 : upd H4 q1 (.lst (os.map V.str)) q1 = some (.lst (os.map V.str)) := upd_same
      have k5 := k4.same t5
      have hf5 := t5 _ _ hf4
      rw [ec]
      generalize upd H4 q1 (.lst (os.map V.str)) = H5 at hq1 k5 hf5 ⊢
      refine ⟨1, rfl, rfl, q1, _, rfl, SqL.of hq1, fun q2 nq2 => ?_⟩
      have t6 := same_new (o := .lst (os.map V.str).reverse) nq2
      have hq2 : upd H5 q2 (.lst (os.map V.str).reverse) q2 = some (.lst (os.reverse.map V.str)) := by rw [upd_same, List.map_reverse]
      have k6 := k5.same t6
      have hf6 := t6 _ _ hf5
      have fq : fo ≠ q2 := ne_of_none hf5 nq2
      have bq2 : q2 ≠ b := (k5.box.ne nq2).symm
      generalize upd H5 q2 (.lst (os.map V.str).reverse) = H6 at hq2 k6 hf6 ⊢
      refine ⟨q2, rfl, ⟨_, SqL.of hq2⟩, for_list (K := K) (a := q2) (xs := os.reverse.map V.str) (fun i σ' H' => ∃ (v4 : Option V) (cl : List Str), σ' = [some (.ref b), some (.str n), v2, some (.ref fo), v4] ∧ BKp b H H' ∧ H' fo = some (.lst ((base0 ++ os ++ cl).map V.str)) ∧ H' q2 = some (.lst (os.reverse.map V.str)) ∧ cl.length ≤ 2 * i ∧ (∀ z ∈ cl, z ∈ closeL) ∧ Good "job" false [] (6 - i) [n] ["main"] (os.drop (6 - i) ++ cl))
        ⟨none, [], rfl, k6, by rw [List.append_nil]; exact hf6, hq2, Nat.zero_le _, fun z h => (nomatch h), by rw [List.drop_of_length_le (by omega)]; exact Good.nil⟩ (fun i σ' H' _ q => by
          obtain ⟨_, _, _, _, _, hq, _⟩ := q
          exact SqL.of hq) ?_ ?_⟩
      · rintro i x σ' H7 hi ⟨v4, cl, rfl, k7, hf7, hq7, lc, hc, g⟩
        obtain ⟨y, hy, rfl⟩ : ∃ y, os.reverse[i]? = some y ∧ x = V.str y := by
          rw [List.getElem?_map] at hi
          cases e : os.reverse[i]? with
          | none => rw [e] at hi; cases hi
          | some y => rw [e] at hi; exact ⟨y, rfl, (Option.some.inj hi).symm⟩
        have i6 : i < 6 := by
          have := (List.getElem?_eq_some_iff.mp hy).1
          rw [List.length_reverse, lo] at this
          exact this
        have hy' : os[5 - i]? = some y := by
          rw [List.getElem?_reverse (by omega), lo] at hy
          exact hy
        have ed : os.drop (5 - i) = y :: os.drop (6 - i) := by
          obtain ⟨h1, h2⟩ := List.getElem?_eq_some_iff.mp hy'
          rw [List.drop_eq_getElem_cons h1, h2]
          congr 2
          omega
        refine nx_of ?_
        refine ⟨_, rfl, .inl ⟨rfl, _, SqL.of hf7⟩, by show 2 ≤ sizeLine; decide, fun p1 np1 => ?_⟩
        have t8 := same_new (o := .lst [V.str "late", V.str "mend"]) np1
        have hp1 : upd H7 p1 (.lst [V.str "late", V.str "mend"]) p1 = some (.lst [V.str "late", V.str "mend"]) := upd_same
        have bp1 : p1 ≠ b := (k7.box.ne np1).symm
        have k8 := k7.same t8
        have hf8 := t8 _ _ hf7
        have hq8 := t8 _ _ hq7
        generalize upd H7 p1 (.lst [V.str "late", V.str "mend"]) = H8 at hp1 k8 hf8 hq8 ⊢
        refine ⟨_, rfl, b, _, rfl, k8.box, by decide, by decide, fun H9 r9 k9' h9 => ?_⟩
        obtain ⟨wd, hwd, hwr⟩ : ∃ wd : Str, [V.str "late", V.str "mend"][r9]? = some (V.str wd) ∧ (wd = "late" ∨ wd = "mend") := by
          have h2 : r9 < 2 := by omega
          match r9, h2 with
          | 0, _ => exact ⟨"late", rfl, .inl rfl⟩
          | 1, _ => exact ⟨"mend", rfl, .inr rfl⟩
        have k9 := k8.trans k9'
        have hf9 := k9'.keep _ _ bf hf8
        have hq9 := k9'.keep _ _ bq2 hq8
        refine ⟨p1, _, _, _, rfl, rfl, SqL.of (k9'.keep _ _ bp1 hp1), atI_nat hwd, by show 1 ≤ sizeLine; decide, fun p2 np2 => ⟨_, rfl, rfl, .inr ⟨_, rfl, ?_⟩⟩⟩
        generalize hkb : decide (V.str y = V.str "guard") = kb
        have e1 : (List.replicate (if kb = true then (1 : Int) else 0).toNat [V.str wd]).flatten = (if kb = true then [wd] else []).map V.str := by cases kb <;> rfl
        have b1 : (if kb = true then (1 : Int) else 0) = 0 ∨ (if kb = true then (1 : Int) else 0) = 1 := by cases kb <;> simp
        generalize (if kb = true then (1 : Int) else 0) = n1 at e1 b1 ⊢
        have t10 := same_new (o := .lst [V.str wd]) np2
        have hp2 : upd H9 p2 (.lst [V.str wd]) p2 = some (.lst [V.str wd]) := upd_same
        have k10 := k9.same t10
        have hf10 := t10 _ _ hf9
        have hq10 := t10 _ _ hq9
        generalize upd H9 p2 (.lst [V.str wd]) = Ha at hp2 k10 hf10 hq10 ⊢
        refine ⟨p2, _, _, rfl, rfl, hp2, by omega, by omega, by rw [sizeLine_eq]; show 1 * n1.toNat ≤ 16777216; omega, fun p3 np3 => ?_⟩
        rw [e1]
        have l1 : ((if kb = true then [wd] else []) : List Str).length ≤ 1 := by cases kb <;> simp
        generalize hws : ((if kb = true then [wd] else []) : List Str) = ws at l1 e1 ⊢
        have t11 := same_new (o := .lst (ws.map V.str)) np3
        have hp3 : upd Ha p3 (.lst (ws.map V.str)) p3 = some (.lst (ws.map V.str)) := upd_same
        have k11 := k10.same t11
        have hf11 := t11 _ _ hf10
        have hq11 := t11 _ _ hq10
        generalize upd Ha p3 (.lst (ws.map V.str)) = Hb at hp3 k11 hf11 hq11 ⊢
        refine ⟨by show 1 ≤ sizeLine; decide, fun p4 np4 => ?_⟩
        have t12 := same_new (o := .lst [V.str "end"]) np4
        have hp4 : upd Hb p4 (.lst [V.str "end"]) p4 = some (.lst ([("end" : Str)].map V.str)) := upd_same
        have k12 := k11.same t12
        have hf12 := t12 _ _ hf11
        have hq12 := t12 _ _ hq11
        have hp3 := t12 _ _ hp3
        generalize upd Hb p4 (.lst [V.str "end"]) = Hc at hp3 hp4 k12 hf12 hq12 ⊢
        refine ⟨p3, p4, _, _, rfl, rfl, hp3, hp4, by rw [List.length_map, List.length_map, sizeLine_eq]; show ws.length + 1 ≤ _; omega, fun p5 np5 => ?_⟩
        have t13 := same_new (o := .lst (ws.map V.str ++ [("end" : Str)].map V.str)) np5
        have hp5 : upd Hc p5 (.lst (ws.map V.str ++ [("end" : Str)].map V.str)) p5 = some (.lst ((ws ++ [("end" : Str)]).map V.str)) := by rw [upd_same, List.map_append]
        have k13 := k12.same t13
        have hf13 := t13 _ _ hf12
        have hq13 := t13 _ _ hq12
        generalize upd Hc p5 (.lst (ws.map V.str ++ [("end" : Str)].map V.str)) = Hd at hp5 k13 hf13 hq13 ⊢
        refine ⟨fo, p5, _, _, rfl, rfl, hf13, hp5, by rw [List.length_map, List.length_map, List.length_append, List.length_append, List.length_append, lb, lo, sizeLine_eq]; show 4 + 6 + cl.length + (ws.length + 1) ≤ _; omega, ?_⟩
        have wl : ∀ z ∈ ws, z = wd := fun z hz => by
          rw [← hws] at hz
          cases kb
          · cases hz
          · exact List.mem_singleton.mp hz
        refine ⟨_, cl ++ (ws ++ [("end" : Str)]), rfl, k13.laid hb nfo, by rw [upd_same, ← List.map_append, ← List.append_assoc (base0 ++ os) cl], by rw [upd_ne fq.symm]; exact hq13, by rw [List.length_append, List.length_append]; show cl.length + (ws.length + 1) ≤ _; omega, fun z hz => ?_, ?_⟩
        · rcases List.mem_append.mp hz with p | p
          · exact hc z p
          · rcases List.mem_append.mp p with p | p
            · rw [wl z p]
              rcases hwr with rfl | rfl <;> decide +kernel
            · rw [List.mem_singleton.mp p]; decide +kernel
        · have g : Good "job" false [] (5 - i + 1) [n] ["main"] (os.drop (6 - i) ++ cl) := by
            rw [show 5 - i + 1 = 6 - i by omega]
            exact g
          rw [show 6 - (i + 1) = 5 - i by omega, ed]
          generalize os.drop (6 - i) = zs at g ⊢
          rcases ho y (List.mem_of_getElem? hy') with rfl | rfl | rfl
          · have ek : kb = false := by rw [← hkb]; decide +kernel
            subst ek
            obtain rfl : ws = [] := hws.symm
            have q := good_repeat (n := "9") (zs := zs ++ cl) (by decide +kernel) (noBl_of (by decide +kernel)) (by omega) g
            rw [show (("repeat" : Str) ++ " " ++ "9" : Str) = "repeat 9" by decide +kernel] at q
            simpa [List.append_assoc] using q
          · have ek : kb = true := by rw [← hkb]; decide +kernel
            subst ek
            obtain rfl : ws = [wd] := hws.symm
            have q := good_guard (late' := true) (zs1 := zs ++ cl) (zs2 := []) (mk := wd) hwr (fun _ => rfl) (fun _ => rfl) (by omega) g Good.nil
            simpa [List.append_assoc] using q
          · have ek : kb = false := by
              rw [← hkb]
              refine decide_eq_false fun q => ?_
              have q := V.str.inj q
              have := congrArg Str.length q
              rw [Str.length_append, Str.length_append, re5, rd8] at this
              have h5 : ("guard" : Str).length = 5 := by decide +kernel
              omega
            subst ek
            obtain rfl : ws = [] := hws.symm
            have q := good_each (w := n) (how := "dropped") (tm := "") (zs := zs ++ cl) (ks' := []) (List.mem_singleton.mpr rfl) nn (.inr (.inl rfl)) (.inl rfl) (fun q => absurd q (by decide +kernel)) (fun z h => h) (by omega) g
            rw [← each_eq] at q
            simpa [List.append_assoc] using q
      · rintro σ' H7 ⟨v4, cl, rfl, k7, hf7, hq7, lc, hc, g⟩
        have l6 : (os.reverse.map V.str).length = 6 := by rw [List.length_map, List.length_reverse, lo]
        rw [l6] at lc g
        exact hN _ _ ⟨v4, cl, rfl, k7, hf7, lc, hc, g⟩
    rintro σ0 H5 ⟨v4, cl, rfl, k5, hf5, lcl, hcl, gcl⟩
    refine ⟨_, rfl, by show 1 ≤ sizeLine; decide, fun p3 np3 => ?_⟩
    have t6 := same_new (o := .lst [V.str "end"]) np3
    have hp6 : upd H5 p3 (.lst [V.str "end"]) p3 = some (.lst ([("end" : Str)].map V.str)) := upd_same
    have hf6 := t6 _ _ hf5
    have k6 := k5.same t6
    generalize upd H5 p3 (.lst [V.str "end"]) = H6 at hp6 hf6 k6 ⊢
    refine ⟨fo, p3, _, _, rfl, rfl, hf6, hp6, by rw [List.length_map, List.length_map, List.length_append, List.length_append, lb, lo, sizeLine_eq]; show 4 + 6 + cl.length + 1 ≤ _; omega, fun p4 np4 => ?_⟩
    refine k _ p4 _ (k6.new np4) (by rw [upd_same, ← List.map_append]) ?_
    rw [← hbase]
    exact deep_text nn ho hcl lo lcl gcl
end
end Ly
end
section
set_option Elab.async false
set_option linter.all false
set_option maxRecDepth 100000
set_option maxHeartbeats 1000000
/-! The names that the law's own rows tell. -/
namespace Ly
open PySem PySem.Spec PyProof.Rows L2
section
variable {X : Cx}
theorem cr_setTxtP {P : Program} {w : World} (hc : X.calm = true) (hp : X.prog = P) (hw : X.w = w) : CallR X (.type "set") (rSetTxt X.K P w) := by
  subst hp hw
  exact cr_setTxt hc
theorem cr_sortedFewP {P : Program} {w : World} (hc : X.calm = true) (hp : X.prog = P) (hw : X.w = w) : CallR X (.builtin "sorted") (rSortedFew P w) := by
  subst hp hw
  exact cr_sortedFew hc
end
theorem at_getD {ps : List Str} {i : Nat} (h : i < ps.length) : (ps.map V.str)[i]? = some (V.str (ps.getD i "")) := by
  rw [List.getElem?_map, List.getElem?_eq_getElem h, List.getD_eq_getElem?_getD, List.getElem?_eq_getElem h]
  rfl
theorem nmIn_app (ws a b : List Str) : nmIn ws (a ++ b) = nmIn ws a ++ nmIn ws b := by
  unfold nmIn
  rw [List.filter_append, List.map_append]
/-- ascending, each once -/
structure Asc (ys xs : List Str) : Prop where
  s : sortedS ys = true
  n : ys.Nodup
  m : ∀ k, k ∈ ys ↔ k ∈ xs
theorem Asc.eq {a b xs ys : List Str} (x : Asc a xs) (y : Asc b ys) (h : ∀ k, k ∈ xs ↔ k ∈ ys) : a = b := sorted_unique a b x.s y.s x.n y.n fun k => (x.m k).trans ((h k).trans (y.m k).symm)
def wdsL : List (List Str) := [["job"], ["walk"], ["wait", "open"]]
section
variable {P : Program} {w : World} {K : PySem.W.Frag} {mg : Str → Option Value} {base : Heap}
/-- the tuples found so far -/
structure TsAt (H : Hp) (fo : Addr) (rows : List Str) (ts : List (Addr × List Str)) : Prop where
  at_ : H fo = some (.lst (ts.map fun x => V.ref x.1))
  its : ∀ (j : Nat) (x : Addr × List Str), ts[j]? = some x → H x.1 = some (.tup (x.2.map V.str)) ∧ Asc x.2 (nmIn (wdsL.getD j []) rows)
def spTold : Sp := fun vs H Q _ => ∃ (l : Addr) (rows : List Str), vs = [.ref l] ∧ H l = some (.lst (rows.map V.str)) ∧ (∀ z ∈ rows, z.length ≤ 30) ∧ rows.length ≤ 100 ∧
  (∀ r ∈ rows, (["job", "walk", "wait", "open"] : List Str).any (· == (Txt.split r " ").getD 0 "") = true → (Txt.split r " ").length = 2) ∧ (∀ ws ∈ wdsL, Few (nmIn ws rows)) ∧
  ∀ (H' : Hp) (fo : Addr) (ts : List (Addr × List Str)), Same H H' → TsAt H' fo rows ts → ts.length = 3 → Q (.ref fo) H'
def tSpl (to te : TE) : TE := tM1 (fun x xs H Q => ∃ a b, x = .str a ∧ xs = [.str b] ∧ (b.length == 0) = false ∧ a.length + 2 ≤ sizeLine ∧ rNewStrs (Txt.split a b) H Q) to te
def toldN : List Str := ["_law_rows_here", "_law_found", "_law_words", "_law_names_here", "_law_row_here"]
theorem sc_told : FnScope toldN ["_law_rows_here"] (defScope t_law_told) := ⟨rfl, rfl, rfl, by decide +kernel, rfl, by decide +kernel, by decide +kernel⟩
theorem ok_told {f : Addr} {fd : FuncData} (F : Fun K "_law_told" "_law_told" t_law_told f fd) (B : Bt mg) : FnOk P w K mg base CX0 1 f fd ["_law_rows_here"] spTold := by
  refine F.ok sc_told (fun vs H Q E h => ?_) (fun cdv A outer s H vs Q E hr h => ?_)
  · obtain ⟨l, rows, rfl, _⟩ := h
    rfl
  · obtain ⟨l, rows, rfl, hl, r30, r100, two, few, k⟩ := h
    have nod := sc_told.nd
    refine ⟨_, pss_cons (ps_set (i := 1) nod rfl (Or.inl rfl) (pe_lst pa_nil))
      (pss_cons (ps_for PassesOwn.never rfl (pi_tup (pe_tup (pa_cons (pe_lst (pa_cons pe_str pa_nil)) (pa_cons (pe_lst (pa_cons pe_str pa_nil)) (pa_cons (pe_lst (pa_cons pe_str (pa_cons pe_str pa_nil))) pa_nil))))) (pg_name (i := 2) nod rfl (Or.inr rfl))
        (pss_cons (ps_setLc (i := 3) (own := [("_law_row_here", 4)]) (g := gName 4) (tt := tTest (tOp (rIn K false) (tOp (rIxL K) (tSpl (tVar 4) (tC (.str " "))) (tC (.int 0))) (tVar 2))) (te := tOp (rIxL K) (tSpl (tVar 4) (tC (.str " "))) (tC (.int 1))) (by rfl) nod rfl rfl (sw_true rfl rfl rfl (by decide +kernel)) (pi_list (pv 0)) (blkOk_by (own := [("_law_row_here", 4)]) (N := toldN) (sc := defScope t_law_told) (by decide +kernel)) (fun _ _ _ _ _ => pg_name (i := 4) nod rfl (Or.inl rfl))
          (fun _ _ _ _ _ => by exact pts_one (pt_cmpR op_in_seq (pe_ix ix_list (pe_split (pv 4) pe_str) pe_int (fun _ _ => rfl)) (pv 2) (by rfl))) (fun _ _ _ _ _ => by exact pe_ix ix_list (pe_split (pv 4) pe_str) pe_int (fun _ _ => rfl)))
        (pss_one (ps_expr (pAppend (pv 1) (pe_callTy call_tuple_of rfl B.tuple (by decide +kernel) (pa_cons (pe_callB (cr_sortedFewP (P := P) (w := w) rfl rfl rfl) rfl B.sorted (by decide +kernel) (pa_cons (pe_callTy (cr_setTxtP (P := P) (w := w) rfl rfl rfl) rfl B.set (by decide +kernel) (pa_cons (pv 3) pa_nil)) pa_nil)) pa_nil)))))))
      (pss_one (ps_ret (pv 1)))), ?_⟩
    refine ⟨by show 0 ≤ sizeLine; decide, fun fo nfo => nx_of (nx_mk ?_)⟩
    have s1 := same_new (o := .lst []) nfo
    have hf1 : upd H fo (.lst []) fo = some (.lst []) := upd_same
    generalize upd H fo (.lst []) = H1 at s1 hf1 ⊢
    refine ⟨by show 1 ≤ sizeLine; decide, fun q1 n1 => ?_⟩
    have s2 := same_new (o := .lst [V.str "job"]) n1
    have a1 : upd H1 q1 (.lst [V.str "job"]) q1 = some (.lst ((["job"] : List Str).map V.str)) := upd_same
    have f1 : q1 ≠ fo := (ne_of_none hf1 n1).symm
    have hf1 := s2 _ _ hf1
    have s2 := s1.trans s2
    generalize upd H1 q1 (.lst [V.str "job"]) = H2 at s2 a1 hf1 ⊢
    refine ⟨by show 1 ≤ sizeLine; decide, fun q2 n2 => ?_⟩
    have s3 := same_new (o := .lst [V.str "walk"]) n2
    have a2 : upd H2 q2 (.lst [V.str "walk"]) q2 = some (.lst ((["walk"] : List Str).map V.str)) := upd_same
    have f2 : q2 ≠ fo := (ne_of_none hf1 n2).symm
    have hf1 := s3 _ _ hf1
    have a1 := s3 _ _ a1
    have s3 := s2.trans s3
    generalize upd H2 q2 (.lst [V.str "walk"]) = H3 at s3 a1 a2 hf1 ⊢
    refine ⟨by show 2 ≤ sizeLine; decide, fun q3 n3 => ?_⟩
    have s4 := same_new (o := .lst [V.str "wait", V.str "open"]) n3
    have a3 : upd H3 q3 (.lst [V.str "wait", V.str "open"]) q3 = some (.lst ((["wait", "open"] : List Str).map V.str)) := upd_same
    have f3 : q3 ≠ fo := (ne_of_none hf1 n3).symm
    have hf1 := s4 _ _ hf1
    have a1 := s4 _ _ a1
    have a2 := s4 _ _ a2
    have s4 := s3.trans s4
    generalize upd H3 q3 (.lst [V.str "wait", V.str "open"]) = H4 at s4 a1 a2 a3 hf1 ⊢
    refine ⟨by show 3 ≤ sizeLine; decide, fun tp ntp => ?_⟩
    have s5 := same_new (o := .tup [V.ref q1, V.ref q2, V.ref q3]) ntp
    have htp : upd H4 tp (.tup [V.ref q1, V.ref q2, V.ref q3]) tp = some (.tup [V.ref q1, V.ref q2, V.ref q3]) := upd_same
    have ft : tp ≠ fo := (ne_of_none hf1 ntp).symm
    have hf1 := s5 _ _ hf1
    have a1 := s5 _ _ a1
    have a2 := s5 _ _ a2
    have a3 := s5 _ _ a3
    have s5 := s4.trans s5
    generalize upd H4 tp (.tup [V.ref q1, V.ref q2, V.ref q3]) = H5 at s5 a1 a2 a3 htp hf1 ⊢
    refine ⟨tp, rfl, ⟨_, SqT.of htp⟩, for_tup (K := K) (a := tp) (xs := [V.ref q1, V.ref q2, V.ref q3]) (fun i σ' H' => ∃ (v2 v3 v4 : Option V) (ts : List (Addr × List Str)), σ' = [some (.ref l), some (.ref fo), v2, v3, v4] ∧ Kp fo H5 H' ∧ TsAt H' fo rows ts ∧ ts.length = i)
      ⟨none, none, none, [], rfl, Kp.of (Same.refl _), ⟨hf1, fun j x h => by cases h⟩, rfl⟩ (fun i σ' H' _ q => by
        obtain ⟨_, _, _, _, _, kp, _⟩ := q
        exact SqT.of (kp _ _ htp ft)) ?_ ?_⟩
    · rintro i x σ' H6 hi ⟨v2, v3, v4, ts, rfl, kp, T, lt⟩
      obtain ⟨q, ws, rfl, hq, fq, hws, ew⟩ : ∃ (q : Addr) (ws : List Str), x = V.ref q ∧ H6 q = some (.lst (ws.map V.str)) ∧ q ≠ fo ∧ ws ∈ wdsL ∧ wdsL.getD i [] = ws := by
        match i, hi with
        | 0, hi => exact ⟨q1, _, (Option.some.inj hi).symm, kp _ _ a1 f1, f1, List.mem_cons_self, rfl⟩
        | 1, hi => exact ⟨q2, _, (Option.some.inj hi).symm, kp _ _ a2 f2, f2, List.mem_cons_of_mem _ List.mem_cons_self, rfl⟩
        | 2, hi => exact ⟨q3, _, (Option.some.inj hi).symm, kp _ _ a3 f3, f3, List.mem_cons_of_mem _ (List.mem_cons_of_mem _ List.mem_cons_self), rfl⟩
        | i + 3, hi => cases hi
      have sub : ∀ z ∈ ws, z ∈ (["job", "walk", "wait", "open"] : List Str) := by
        have : wdsL.all (fun ws => ws.all fun z => (["job", "walk", "wait", "open"] : List Str).contains z) = true := by decide +kernel
        exact fun z hz => List.contains_iff_mem.mp (List.all_eq_true.mp (List.all_eq_true.mp this ws hws) z hz)
      have lf : l ≠ fo := ne_of_none hl nfo
      have hl6 := kp _ _ (s5 _ _ hl) lf
      refine nx_of ?_
      -- the names
      refine seq_cut (t := tAsg _ _) (fun σ' H' => ∃ (D : Addr), σ' = [some (.ref l), some (.ref fo), some (.ref q), some (.ref D), v4] ∧ Same H6 H' ∧ H' D = some (.lst ((nmIn ws rows).map V.str))) (fun N hN => ?_) ?_
      · refine ⟨_, rfl, l, rfl, ⟨_, SqL.of hl6⟩, fun D nD => lc_list (K := K) (a := l) (xs := rows.map V.str) (fun i H' => Same H6 H' ∧ H' D = some (.lst ((nmIn ws (rows.take i)).map V.str))) ⟨same_new nD, upd_same⟩ (fun i H' _ p => SqL.of (p.1 _ _ hl6)) ?_ ?_⟩
        · rintro j x H7 hj ⟨s7, hD7⟩
          obtain ⟨y, hy, rfl⟩ : ∃ y, rows[j]? = some y ∧ x = V.str y := by
            rw [List.getElem?_map] at hj
            cases e : rows[j]? with
            | none => rw [e] at hj; cases hj
            | some y => rw [e] at hj; exact ⟨y, rfl, (Option.some.inj hj).symm⟩
          have ly := r30 y (List.mem_of_getElem? hy)
          have py := split_pos y " "
          have et : nmIn ws (rows.take (j + 1)) = nmIn ws (rows.take j) ++ (if ws.any (· == (Txt.split y " ").getD 0 "") = true then [(Txt.split y " ").getD 1 ""] else []) := by
            rw [List.take_add_one, hy, nmIn_app]
            congr 1
            show nmIn ws [y] = _
            rw [nmIn_cons, show nmIn ws [] = [] from rfl, List.append_nil]
          refine ⟨rfl, ?_⟩
          refine ⟨_, rfl, ⟨_, rfl⟩, _, _, rfl, rfl, by decide +kernel, by rw [sizeLine_eq]; omega, fun p np => ?_⟩
          have t8 := same_new (o := .lst ((Txt.split y " ").map V.str)) np
          have hp : upd H7 p (.lst ((Txt.split y " ").map V.str)) p = some (.lst ((Txt.split y " ").map V.str)) := upd_same
          have hD8 := t8 _ _ hD7
          have s8 := s7.trans t8
          generalize upd H7 p (.lst ((Txt.split y " ").map V.str)) = H8 at hp hD8 s8 ⊢
          refine ⟨p, _, 0, _, rfl, rfl, SqL.of hp, atI_nat (j := 0) (at_getD py), _, rfl, q, _, rfl, .inl (SqL.of (s8 _ _ hq)), rfl, flat_str ws, _, rfl, ?_⟩
          rw [show (if false = true then !inV (V.str ((Txt.split y " ").getD 0 "")) (ws.map V.str) else inV (V.str ((Txt.split y " ").getD 0 "")) (ws.map V.str)) = ws.any (· == (Txt.split y " ").getD 0 "") from inV_strs _ _, et]
          cases c : ws.any (· == (Txt.split y " ").getD 0 "") with
          | false =>
            refine iteF ⟨s8, ?_⟩
            rw [if_neg Bool.false_ne_true, List.append_nil]
            exact hD8
          | true =>
            have t2 := two y (List.mem_of_getElem? hy) (by
              obtain ⟨z, hz, e⟩ := List.any_eq_true.mp c
              exact List.any_eq_true.mpr ⟨z, sub z hz, e⟩)
            refine iteT ?_
            refine ⟨_, rfl, ⟨_, rfl⟩, _, _, rfl, rfl, by decide +kernel, by rw [sizeLine_eq]; omega, fun p2 np2 => ?_⟩
            have t9 := same_new (o := .lst ((Txt.split y " ").map V.str)) np2
            refine ⟨p2, _, 1, _, rfl, rfl, SqL.of upd_same, atI_nat (j := 1) (at_getD (by omega)), _, t9 _ _ hD8, ?_, ?_, ?_⟩
            · rw [List.length_map, sizeLine_eq]
              have := nm_len ws (rows.take j)
              rw [List.length_take] at this
              omega
            · intro b o hb
              rw [upd_ne (ne_of_none hb nD)]
              exact t9 _ _ (s8 _ _ hb)
            · rw [upd_same, if_pos rfl, List.map_append]
              rfl
        · rintro H7 ⟨s7, hD7⟩
          rw [List.length_map, List.take_length] at hD7
          exact nx_of (hN _ _ ⟨D, rfl, s7, hD7⟩)
      rintro σ0 H7 ⟨D, rfl, s7, hD7⟩
      have hf7 := s7 _ _ T.at_
      refine ⟨_, rfl, .inl ⟨rfl, _, SqL.of hf7⟩, _, rfl, D, nmIn ws rows, rfl, SqL.of hD7, (few ws hws).1, fun g1 n1 => ?_⟩
      refine ⟨g1, nmIn ws rows, rfl, upd_same, few ws hws, fun ys g2 sg ng mg' n2 => ?_⟩
      refine ⟨g2, _, rfl, .inl ⟨SqL.of upd_same, fun ga n3 => ?_⟩⟩
      have s8 := ((same_new (o := SetXO P w g1 (nmIn ws rows)) n1).trans (same_new (o := .lst (ys.map V.str)) n2)).trans (same_new (o := .tup (ys.map V.str)) n3)
      have hg8 : upd (upd (upd H7 g1 (SetXO P w g1 (nmIn ws rows))) g2 (.lst (ys.map V.str))) ga (.tup (ys.map V.str)) ga = some (.tup (ys.map V.str)) := upd_same
      have gf : ga ≠ fo := by
        rintro rfl
        have := ((same_new (o := SetXO P w g1 (nmIn ws rows)) n1).trans (same_new (o := .lst (ys.map V.str)) n2)) _ _ hf7
        rw [n3] at this
        cases this
      have hf8 := s8 _ _ hf7
      generalize upd (upd (upd H7 g1 (SetXO P w g1 (nmIn ws rows))) g2 (.lst (ys.map V.str))) ga (.tup (ys.map V.str)) = H8 at s8 hg8 hf8 ⊢
      have l3 : ts.length ≤ 2 := by
        have : i < 3 := by
          have := (List.getElem?_eq_some_iff.mp hi).1
          exact this
        omega
      refine ⟨fo, _, _, rfl, rfl, hf8, by rw [List.length_map, sizeLine_eq]; omega, ?_⟩
      refine ⟨_, _, _, ts ++ [(ga, ys)], rfl, fun b o hb nb => by rw [upd_ne nb]; exact s8 _ _ (s7 _ _ (kp b o hb nb)), ⟨by rw [upd_same, List.map_append]; rfl, fun j x hj => ?_⟩, by rw [List.length_append, lt]; rfl⟩
      by_cases c : j < ts.length
      · rw [List.getElem?_append_left c] at hj
        obtain ⟨e1, e2⟩ := T.its j x hj
        have nx : x.1 ≠ fo := by
          rintro e
          rw [e, T.at_] at e1
          cases e1
        exact ⟨by rw [upd_ne nx]; exact s8 _ _ (s7 _ _ e1), e2⟩
      · rw [List.getElem?_append_right (by omega)] at hj
        have j0 : j - ts.length = 0 := by
          have := (List.getElem?_eq_some_iff.mp hj).1
          rw [List.length_singleton] at this
          omega
        rw [j0] at hj
        obtain rfl : (ga, ys) = x := Option.some.inj hj
        refine ⟨by rw [upd_ne gf]; exact hg8, ?_⟩
        rw [show j = i by omega, ew]
        exact ⟨sg, ng, mg'⟩
    · rintro σ' H6 ⟨v2, v3, v4, ts, rfl, kp, T, lt⟩
      refine ⟨_, rfl, k H6 fo ts (fun b o hb => kp b o (s5 _ _ hb) (ne_of_none hb nfo)) T lt⟩
end
end Ly
end
section
set_option Elab.async false
set_option linter.all false
set_option maxRecDepth 100000
/-! The source of draws; repr of what was heard. -/
namespace Ly
open PySem PySem.Spec PyProof.Rows L2
section
variable {P : Program} {w : World} {K : PySem.W.Frag} {mg : Str → Option Value} {base : Heap}
def spBox (K : PySem.W.Frag) : Sp := fun vs H Q _ => ∃ (a : Addr) (j : Nat) (ns : List Int), vs = [.ref a, .int (j : Int), .int 2] ∧ SqL K H a (ns.map V.int) ∧ ∀ (H' : Hp) (p : Addr), Same H H' → H p = none → BoxAt H' p → Q (.ref p) H'
theorem sc_box : FnScope ["_law_script", "_law_k", "_law_own", "_law_cell", "_law_seed"] ["_law_script", "_law_k", "_law_own"] (defScope t_law_box) := ⟨rfl, rfl, rfl, by decide +kernel, rfl, by decide +kernel, by decide +kernel⟩
theorem ok_box {f : Addr} {fd : FuncData} (F : Fun K "_law_box" "_law_box" t_law_box f fd) (B : Bt mg) : FnOk P w K mg base CX0 1 f fd ["_law_script", "_law_k", "_law_own"] (spBox K) := by
  refine F.ok sc_box (fun vs H Q E h => ?_) (fun cdv A outer s H vs Q E hr h => ?_)
  · obtain ⟨a, j, ns, rfl, _⟩ := h
    rfl
  · obtain ⟨a, j, ns, rfl, hS, k⟩ := h
    have nod := sc_box.nd
    refine ⟨_, pss_cons (ps_set (i := 3) nod rfl (Or.inl rfl) (pe_op op_add (pe_op op_add (pe_op op_mul pe_int (pv 1)) (pe_op op_mul pe_int (pv 2))) pe_int))
      (pss_cons (ps_if (pt_cmpR op_lt (pv 1) (pLenQ B.len (pv 0)) (nomark _))
          (pss_one (ps_set (i := 3) nod rfl (Or.inl rfl) (pe_callB call_abs rfl B.abs (by decide +kernel) (pa_cons (pe_ix ix_list (pv 0) (pv 1) (fun _ _ => rfl)) pa_nil))))
          (pss_one (ps_if (pt_cmpR op_gt (pLenQ B.len (pv 0)) pe_int (nomark _))
            (pss_one (ps_set (i := 3) nod rfl (Or.inl rfl) (pe_op op_add (pv 3) (pe_op op_mul (pe_op op_modN (pe_callTy call_int1 rfl B.int (by decide +kernel) (pa_cons (pe_callB call_abs rfl B.abs (by decide +kernel) (pa_cons (pe_ix ix_list (pv 0) (pe_op op_modN (pe_callTy call_int1 rfl B.int (by decide +kernel) (pa_cons (pv 1) pa_nil)) (pLenQ B.len (pv 0))) (fun _ _ => rfl)) pa_nil)) pa_nil)) pe_int) pe_int)))) pss_nil)))
      (pss_cons (ps_set (i := 4) nod rfl (Or.inl rfl) (pe_op op_add (pe_op op_modN (pe_callTy call_int1 rfl B.int (by decide +kernel) (pa_cons (pe_op op_add (pe_op op_mul (pe_op op_modN (pe_callTy call_int1 rfl B.int (by decide +kernel) (pa_cons (pv 3) pa_nil)) pe_int) pe_int) (pe_op op_mul pe_int (pe_op op_add (pv 1) (pe_op op_mul pe_int (pv 2))))) pa_nil)) pe_int) pe_int))
      (pss_one (ps_ret (pe_lst (pa_cons (pe_ix ix_list (pe_lst (pa_cons pe_int (pa_cons (pv 3) pa_nil))) (pe_callTy call_int1 rfl B.int (by decide +kernel) (pa_cons (pe_cmpR op_ge (pv 3) (pe_op op_pow pe_int pe_int) (nomark _)) pa_nil)) (fun _ _ => rfl)) (pa_cons (pv 4) (pa_cons pe_int pa_nil)))))))), ?_⟩
    refine ⟨_, rfl, _, _, rfl, rfl, .inl ⟨by decide, by decide⟩, _, rfl, _, _, rfl, rfl, .inl ⟨by decide, by decide⟩, _, _, rfl, rfl, _, _, rfl, rfl, nx_of (nx_mk ?_)⟩
    dsimp only
    refine seq_cut (t := tIfS _ _ _) (fun σ' H' => ∃ c : Int, σ' = [some (.ref a), some (.int (j : Int)), some (.int 2), some (.int c), none] ∧ H' = H) (fun N hN => ?_) ?_
    · refine ⟨_, rfl, _, rfl, a, _, rfl, .inl hS, _, _, rfl, rfl, _, rfl, ?_⟩
      by_cases c1 : (j : Int) < ((ns.map V.int).length : Int)
      · refine iteT' (decide_eq_true c1) ?_
        have hj : j < ns.length := by rw [List.length_map] at c1; omega
        refine ⟨_, rfl, _, rfl, a, _, _, V.int ns[j], rfl, rfl, hS, atI_nat (by rw [List.getElem?_map, List.getElem?_eq_getElem hj]; rfl), _, rfl, nx_of (hN _ _ ?_)⟩
        exact ⟨_, rfl, rfl⟩
      · refine iteF' (decide_eq_false c1) ?_
        refine ⟨_, rfl, a, _, rfl, .inl hS, _, _, rfl, rfl, _, rfl, ?_⟩
        by_cases c2 : (0 : Int) < ((ns.map V.int).length : Int)
        · refine iteT' (decide_eq_true c2) ?_
          have hl : (ns.map V.int).length = ns.length := List.length_map _
          obtain ⟨r, er, hr'⟩ := fmod_natL (x := (j : Int)) c2
          have hj : r < ns.length := by omega
          refine ⟨_, rfl, _, rfl, _, rfl, .inl ⟨_, rfl, _, rfl, a, _, rfl, .inl hS, _, _, rfl, rfl, (by omega), ?_⟩⟩
          refine ⟨a, _, _, V.int ns[r], rfl, rfl, hS, ?_, _, rfl, .inl ⟨_, rfl, ?_⟩⟩
          · show atI (ns.map V.int) (Int.fmod (j : Int) ((ns.map V.int).length : Int)) = _
            rw [er]
            exact atI_nat (by rw [List.getElem?_map, List.getElem?_eq_getElem hj]; rfl)
          · exact ⟨_, _, rfl, rfl, (show (2147483629 : Int) ≠ 0 by decide), _, _, rfl, rfl, .inr ⟨by decide, by decide⟩, _, _, rfl, rfl, nx_of (hN _ _ ⟨_, rfl, rfl⟩)⟩
        · refine iteF' (decide_eq_false c2) (nx_mk (hN _ _ ?_))
          exact ⟨_, rfl, rfl⟩
    rintro σ0 H1 ⟨c, rfl, rfl⟩
    refine ⟨_, rfl, .inl ⟨_, rfl, _, _, rfl, rfl, (show (2147483629 : Int) ≠ 0 by decide), _, _, rfl, rfl, .inr ⟨by decide, by decide⟩, ?_⟩⟩
    refine ⟨_, rfl, _, rfl, _, _, rfl, rfl, .inl ⟨by decide, by decide⟩, _, _, rfl, rfl, _, _, rfl, rfl, .inl ⟨by decide, by decide⟩, _, _, rfl, rfl, .inl ⟨_, rfl, _, _, rfl, rfl, (show (2147483629 : Int) ≠ 0 by decide), _, _, rfl, rfl, nx_of (nx_mk ?_)⟩⟩
    dsimp only
    refine ⟨_, rfl, by show 2 ≤ sizeLine; decide, fun p np => ?_⟩
    have s1 := same_new (o := .lst [V.int 0, V.int c]) np
    have hp : upd H1 p (.lst [V.int 0, V.int c]) p = some (.lst [V.int 0, V.int c]) := upd_same
    generalize upd H1 p (.lst [V.int 0, V.int c]) = H2 at s1 hp ⊢
    refine ⟨_, rfl, _, _, rfl, rfl, ⟨by decide, by decide, by decide⟩, _, _, rfl, rfl, .inr ⟨_, rfl, ?_⟩⟩
    have key : ∀ kb : Bool, ∃ x : Int, atI [V.int 0, V.int c] (if kb = true then 1 else 0) = some (V.int x) := fun kb => by
      cases kb
      · exact ⟨0, atI_nat (j := 0) rfl⟩
      · exact ⟨c, atI_nat (j := 1) rfl⟩
    obtain ⟨x, hx⟩ := key (decide ((10 : Int) ^ (18 : Int).toNat ≤ c))
    refine ⟨p, _, _, _, rfl, rfl, SqL.of hp, hx, _, rfl, by show 3 ≤ sizeLine; decide, fun q nq => ?_⟩
    exact k _ q (s1.trans (same_new nq)) (s1.free nq) ⟨_, _, _, upd_same⟩
end
end Ly
end
section
set_option Elab.async false
set_option linter.all false
set_option maxRecDepth 100000
set_option maxHeartbeats 1000000
/-! The law's own body. -/
namespace Ly
open PySem PySem.Spec PyProof.Rows L2
theorem sum_len {n : Nat} : ∀ {zs : List Str}, (∀ z ∈ zs, z.length ≤ n) → (zs.map (·.length)).sum ≤ zs.length * n
  | [], _ => Nat.zero_le _
  | z :: zs, h => by
    have h1 := h z (List.mem_cons_self ..)
    have h2 := sum_len fun y hy => h y (List.mem_cons_of_mem _ hy)
    rw [List.map_cons, List.sum_cons, List.length_cons, Nat.succ_mul]
    omega
/-- a text that is read -/
structure TextG (text : Str) : Prop where
  len : text.length ≤ 90000
  r : TextR (Txt.split text "\n")
theorem text_of {rows : List Str} (T : TextR rows) : TextG (Txt.join "\n" rows) := by
  have ej : Txt.join "\n" rows = Str.join "\n" rows := by first | exact (PySem.StrLaws.glued_eq_join _ _) | exact (PySem.StrLaws.glued_eq_join _ _).symm
  have hne : rows ≠ [] := fun e => by have := T.pos; rw [e] at this; cases this
  have e : Txt.split (Txt.join "\n" rows) "\n" = rows := TL.split_join (s := 10) (S := []) (by kernel_rfl) (by decide +kernel) hne fun p h z => ((T.rw p h).sg 10 z).2 rfl
  refine ⟨?_, by rw [e]; exact T⟩
  have := join_many (sep := "\n") (n := 30) (by decide) (rows := rows) fun r h => (T.rw r h).len
  rw [ej]
  have : rows.length * 31 ≤ 100 * 31 := Nat.mul_le_mul_right _ T.len
  omega
theorem text_eq (a b : Str) : (Txt.split a "\n" == Txt.split b "\n") = decide (a = b) := by
  by_cases c : a = b
  · rw [c, decide_eq_true rfl, beq_self_eq_true]
  · rw [decide_eq_false c, beq_eq_false_iff_ne]
    intro e
    refine c ?_
    have e1 : Str.join "\n" (Txt.split a "\n") = a := PySem.StrLaws.join_split a "\n"
    have e2 : Str.join "\n" (Txt.split b "\n") = b := PySem.StrLaws.join_split b "\n"
    rw [← e1, ← e2, e]
theorem tup_shaped {js : List Str} (h : ∀ z ∈ js, Pln z) : PyData.canLay0 (.tuple (js.map PyData.str)) = true ∧ PyData.depth (.tuple (js.map PyData.str)) = 1 := by
  obtain ⟨d2, d3⟩ := shaped_strs js h
  exact ⟨d2, by unfold PyData.depth; rw [d3]⟩
theorem three_shaped {js ws gs : List Str} (h1 : ∀ z ∈ js, Pln z) (h2 : ∀ z ∈ ws, Pln z) (h3 : ∀ z ∈ gs, Pln z) : SeqAt.shaped (.list [.tuple (js.map PyData.str), .tuple (ws.map PyData.str), .tuple (gs.map PyData.str)]) = true := by
  obtain ⟨a1, b1⟩ := tup_shaped h1
  obtain ⟨a2, b2⟩ := tup_shaped h2
  obtain ⟨a3, b3⟩ := tup_shaped h3
  show (PyData.canLayAll0 _ && decide (PyData.depth (.list _) ≤ 64)) = true
  have e1 : PyData.canLayAll0 [.tuple (js.map PyData.str), .tuple (ws.map PyData.str), .tuple (gs.map PyData.str)] = true := by
    show (PyData.canLay0 _ && (PyData.canLay0 _ && (PyData.canLay0 _ && true))) = true
    rw [a1, a2, a3]
    rfl
  have e2 : PyData.depth (.list [.tuple (js.map PyData.str), .tuple (ws.map PyData.str), .tuple (gs.map PyData.str)]) = 2 := by
    show max (PyData.depth _) (max (PyData.depth _) (max (PyData.depth _) 0)) + 1 = 2
    rw [b1, b2, b3]
    rfl
  rw [e1, e2]
  rfl
theorem three_eqv (js ws gs : List Str) : PyData.eqv (.list [.tuple (js.map PyData.str), .tuple (ws.map PyData.str), .tuple (gs.map PyData.str)]) (.list [.tuple (js.map PyData.str), .tuple (ws.map PyData.str), .tuple (gs.map PyData.str)]) = true := by
  show (PyData.eqvAll _ _ && (PyData.eqvAll _ _ && (PyData.eqvAll _ _ && true))) = true
  rw [eqvAll_strs, eqvAll_strs, eqvAll_strs, beq_self_eq_true, beq_self_eq_true, beq_self_eq_true]
  rfl
theorem nm_pln {ws rows : List Str} (h : ∀ z ∈ rows, Rw 30 z) : ∀ k ∈ nmIn ws rows, Pln k := fun k hk => by
  obtain ⟨r, hr, _, e⟩ := nm_mem hk
  rw [← e]
  exact pln_getD (fun z hz => ((h r hr).part hz).pln) 1
theorem Same.put {H H' : Hp} {p : Addr} {o : HO} (s : Same H H') (n : H p = none) : Same H (upd H' p o) := fun b u e => by
  rw [upd_ne (ne_of_none e n)]
  exact s b u e
theorem Same.draw {H H' H2 : Hp} {b : Addr} (s : Same H H') (n : H b = none) (k : BKp b H' H2) : Same H H2 := fun p o e => k.keep p o (ne_of_none e n) (s p o e)
theorem BoxAt.put {H : Hp} {b p : Addr} {o : HO} (h : BoxAt H b) (n : p ≠ b) : BoxAt (upd H p o) b := by
  obtain ⟨c, s, m, e⟩ := h
  exact ⟨c, s, m, by rw [upd_ne n.symm]; exact e⟩
section
variable {P : Program} {w : World} {K : PySem.W.Frag} {mg : Str → Option Value} {base : Heap} {CP CR CS CB CU CT : Addr}
def spReadG (K : PySem.W.Frag) (CP CR CS : Addr) : Sp := fun vs H Q _ => ∃ text : Str, vs = [.str text] ∧ TextG text ∧ ∀ H' p st L js ws gs T, Same H H' → H p = none → Told (Txt.split text "\n") st → PgAt K CP CR CS H' p (Txt.split text "\n") st L js ws gs T → Q (.ref p) H'
theorem ok_readG {f : Addr} {fd : FuncData} (F : FnOk P w K mg base (L2.CX P w) 8 f fd ["text"] (spRead K CP CR CS CB CU CT)) : FnOk P w K mg base CX0 8 f fd ["text"] (spReadG K CP CR CS) :=
  calmFn F fun vs H Q E h => by
    obtain ⟨text, rfl, G, k⟩ := h
    obtain ⟨st, T⟩ := told_of G.r.reads
    refine ⟨text, rfl, G.len, Nat.le_trans G.r.len (by decide), ?_⟩
    rw [T.ok]
    refine ⟨by rw [T.gates]; exact G.r.few, fun H' p L js ws gs t s n A => k H' p st L js ws gs t s n T A⟩
/-- a program of a text, at p -/
structure Pk (K : PySem.W.Frag) (CP : Addr) (H : Hp) (text : Str) (p : Addr) : Prop where
  at_ : ∃ (dx ra ja : Addr) (fs : List (Str × V)) (js : List Str), H p = some (.ins CP dx fs) ∧ fs.lookup ("rows" : Str) = some (.ref ra) ∧ SqT K H ra ((Txt.split text "\n").map V.str) ∧ fs.lookup ("jobs" : Str) = some (.ref ja) ∧ SqT K H ja (js.map V.str)
  pln : ∀ z ∈ Txt.split text "\n", Pln z
theorem Pk.kp {H H' : Hp} {text : Str} {p x : Addr} (h : Pk K CP H text p) (k : ∀ b o, H b = some o → b ≠ x → H' b = some o) (hx : ∃ vs, H x = some (.lst vs)) : Pk K CP H' text p := by
  obtain ⟨dx, ra, ja, fs, js, hp, l1, q1, l2, q2⟩ := h.at_
  obtain ⟨vs, hx⟩ := hx
  have mv : ∀ {a : Addr} {xs : List V}, SqT K H a xs → SqT K H' a xs := fun {a xs} q => by
    rcases q with (q | ⟨o, q⟩) | q
    · exact .inl (.inl (k _ _ q (by rintro rfl; rw [hx] at q; cases q)))
    · exact .inl (.inr ⟨o, k _ _ q (by rintro rfl; rw [hx] at q; cases q)⟩)
    · exact .inr q
  exact ⟨⟨dx, ra, ja, fs, js, k _ _ hp (by rintro rfl; rw [hx] at hp; cases hp), l1, mv q1, l2, mv q2⟩, h.pln⟩
theorem Pk.same {H H' : Hp} {text : Str} {p : Addr} (h : Pk K CP H text p) (s : Same H H') : Pk K CP H' text p := by
  obtain ⟨dx, ra, ja, fs, js, hp, l1, q1, l2, q2⟩ := h.at_
  exact ⟨⟨dx, ra, ja, fs, js, s _ _ hp, l1, same_t s q1, l2, same_t s q2⟩, h.pln⟩
/-- what is needed of the class Program to compare and measure -/
structure PgX (K : PySem.W.Frag) (CP fE fL fS : Addr) : Prop where
  ec : PySem.W.findIn K (.ref CP) "__class__" = some (some (.builtin "object.__class__"))
  hn : PySem.W.specialIn K (.builtin "object.__class__") "__get__" = some (some (.builtin "getset_descriptor.__get__"))
  ht : PySem.W.takesIn K (.builtin "object.__class__") = some true
  hm : PySem.W.mroIn K CP (.type "object") = some true
  ne : PySem.W.findIn K (.ref CP) "__ne__" = some (some (.builtin "object.__ne__"))
  eq : PySem.W.findIn K (.ref CP) "__eq__" = some (some (.ref fE))
  ef : PySem.W.isFn K (.ref fE) = true
  ln : PySem.W.findIn K (.ref CP) "__len__" = some (some (.ref fL))
  lf : PySem.W.isFn K (.ref fL) = true
  st : PySem.W.findIn K (.ref CP) "__str__" = some (some (.ref fS))
  sf : PySem.W.isFn K (.ref fS) = true
  ks : PySem.W.kitOne K (.type "str") (.ref CP) = some false
  kt : PySem.W.kitOne K (.type "tuple") (.ref CP) = some false
  kp : PySem.W.kitOne K (.ref CP) (.ref CP) = some true
  ns : PySem.W.notFirst K CP (.type "str") = true
  nt : PySem.W.notFirst K CP (.type "tuple") = true
/-- the programs made, with their texts -/
structure MadeAt (K : PySem.W.Frag) (CP : Addr) (H : Hp) (md : Addr) (its : List (Addr × Str × Addr)) : Prop where
  at_ : H md = some (.lst (its.map fun x => V.ref x.1))
  its : ∀ (j : Nat) (x : Addr × Str × Addr), its[j]? = some x → H x.1 = some (.tup [V.str x.2.1, V.ref x.2.2]) ∧ Pk K CP H x.2.1 x.2.2 ∧ TextG x.2.1
theorem MadeAt.same {H H' : Hp} {md : Addr} {its : List (Addr × Str × Addr)} (h : MadeAt K CP H md its) (s : Same H H') : MadeAt K CP H' md its :=
  ⟨s _ _ h.at_, fun j x e => let ⟨a, b, c⟩ := h.its j x e; ⟨s _ _ a, b.same s, c⟩⟩
theorem pk_pk {fE fL fS : Addr} (PX : PgX K CP fE fL fS) (G : PgC K mg CP) {H : Hp} {t1 t2 : Str} {p q : Addr} (h1 : Pk K CP H t1 p) (h2 : Pk K CP H t2 q) {neg : Bool} {Q : VK} (k : Q (.bl (if neg then !decide (t1 = t2) else decide (t1 = t2))) H) : rOwn K CP (spPEq K CP) neg (.ref p) (.ref q) H Q := by
  obtain ⟨dx, ra, ja, fs, js, hp, l1, q1, _⟩ := h1.at_
  obtain ⟨dy, rb, jb, gs, js2, hq, l2, q2, _⟩ := h2.at_
  have ty : TyX K H (.ref q) (.ref CP) := .base (.ins hq G.cl PX.ec PX.hn PX.ht PX.hm)
  refine ⟨p, dx, fs, .ref CP, rfl, hp, ty, by unfold PySem.W.notFirst; rw [beq_self_eq_true]; rfl, p, dx, ra, fs, _, .ref q, .ref CP, true, rfl, hp, l1, q1, h1.pln, ty, PX.kp, (fun z => by cases z), fun _ => ⟨q, dy, rb, gs, _, rfl, hq, l2, q2, h2.pln, _, rfl, ?_⟩⟩
  rw [text_eq]
  exact k
theorem pk_other {H : Hp} {t1 : Str} {p : Addr} {y : V} {t : Value} (h1 : Pk K CP H t1 p) (ty : TyX K H y t) (kt : PySem.W.kitOne K t (.ref CP) = some false) (nf : PySem.W.notFirst K CP t = true) {neg : Bool} {Q : VK} (k : Q (.bl (if neg then !false else false)) H) : rOwn K CP (spPEq K CP) neg (.ref p) y H Q := by
  obtain ⟨dx, ra, ja, fs, js, hp, l1, q1, _⟩ := h1.at_
  exact ⟨p, dx, fs, t, rfl, hp, ty, nf, p, dx, ra, fs, _, y, t, false, rfl, hp, l1, q1, h1.pln, ty, kt, (fun _ => ⟨_, rfl, k⟩), fun z => by cases z⟩
def lawN : List Str := ["_law_script", "_law_k", "_law_box_here", "_law_made", "_law_texts", "_law_turn", "_law_text", "_law_one", "_law_rows_here", "_law_other", "_law_two"]
theorem sc_law : FnScope lawN ["_law_script"] (defScope t_law) := ⟨rfl, rfl, rfl, by decide +kernel, rfl, by decide +kernel, by decide +kernel⟩
theorem law_body {f fb fs fl fo fE fL fS pS gS : Addr} {db ds dl do' dE dL dS dR : FuncData} {mc : Value} (B : Bt mg) (G : PgC K mg CP) (PX : PgX K CP fE fL fS)
    (GB : FnOk P w K mg base CX0 1 fb db ["_law_script", "_law_k", "_law_own"] (spBox K)) (aB : mg "_law_box" = some (.ref fb)) (kB : PySem.W.keepIn K (.ref fb) = true) (bB : Binds K db ["_law_script", "_law_k", "_law_own"] [])
    (GS : FnOk P w K mg base CX0 18 fs ds ["_law_box_here"] spText) (aS : mg "_law_some_program" = some (.ref fs)) (kS : PySem.W.keepIn K (.ref fs) = true) (bS : Binds K ds ["_law_box_here"] [])
    (GL : FnOk P w K mg base CX0 4 fl dl ["_law_box_here"] spText) (aL : mg "_law_long" = some (.ref fl)) (kL : PySem.W.keepIn K (.ref fl) = true) (bL : Binds K dl ["_law_box_here"] [])
    (GO : FnOk P w K mg base CX0 1 fo do' ["_law_rows_here"] spTold) (aO : mg "_law_told" = some (.ref fo)) (kO : PySem.W.keepIn K (.ref fo) = true) (bO : Binds K do' ["_law_rows_here"] [])
    (GR : FnOk P w K mg base CX0 8 gS dR ["text"] (spReadG K CP CR CS)) (SR : CStat K CP mc "read" pS gS) (bR : Binds K dR ["text"] [])
    (GE : FnOk P w K mg base CX0 1 fE dE ["self", "other"] (spPEq K CP)) (bE : Binds K dE ["self", "other"] [])
    (GN : FnOk P w K mg base CX0 1 fL dL ["self"] (spPLen K CP)) (bN : Binds K dL ["self"] [])
    (GT : FnOk P w K mg base CX0 1 fS dS ["self"] (spPStr K CP)) (bT : Binds K dS ["self"] [])
    (cdv : Value) (A : Around) (outer : List Env) (s : Shared) (H : Hp) (Q : VK) (E : XK) (hr : Room 18 (A.deeper (envOfC "law" (defScope t_law) s.heap.objs.size f cdv))) (a : Addr) (ns : List Int) (hS : SqL K H a (ns.map V.int)) (hQ : ∀ H', Q (.bl true) H') :
    ∃ t, PSs (cxOf CX0 P w K mg base lawN "law" (defScope t_law) f cdv A outer s H E).nox (defBody t_law) t ∧ t { nx := fun _ H' => Q .non H', rt := Q } (start lawN [.ref a]) H := by
  have nod := sc_law.nd
  have hu : (A.deeper (envOfC "law" (defScope t_law) s.heap.objs.size f cdv)).units + 64 < cLine := hr.units
  have hr1 : Room 1 (A.deeper (envOfC "law" (defScope t_law) s.heap.objs.size f cdv)) := hr.mono (by decide)
  have hr2 : Room 2 (A.deeper (envOfC "law" (defScope t_law) s.heap.objs.size f cdv)) := hr.mono (by decide)
  have hr3 : Room 3 (A.deeper (envOfC "law" (defScope t_law) s.heap.objs.size f cdv)) := hr.mono (by decide)
  have hr4 : Room 4 (A.deeper (envOfC "law" (defScope t_law) s.heap.objs.size f cdv)) := hr.mono (by decide)
  have hr8 : Room 8 (A.deeper (envOfC "law" (defScope t_law) s.heap.objs.size f cdv)) := hr.mono (by decide)
  refine ⟨_, pss_cons (ps_for PassesOwn.never rfl (pi_range1 rfl B.range (pa_cons (pe_callB (call_max2 rfl) rfl B.max (by decide +kernel) (pa_cons pe_int (pa_cons (pe_callB (call_min2 rfl) rfl B.min (by decide +kernel) (pa_cons pe_int (pa_cons (pLenQ B.len (pv 0)) pa_nil))) pa_nil))) pa_nil)) (pg_name (i := 1) nod rfl (Or.inl rfl))
      (pss_cons (ps_asg (pe_tup (pa_cons (pe_call GB hr1 rfl aB kB bB .nil pass0 (pa_cons (pv 0) (pa_cons (pv 1) (pa_cons pe_int pa_nil)))) (pa_cons (pe_lst pa_nil) pa_nil))) (pg_tup rfl (pgs_cons (pg_name (i := 2) nod rfl (Or.inr rfl)) (pgs_cons (pg_name (i := 3) nod rfl (Or.inl rfl)) pgs_nil))) rfl)
      (pss_cons (ps_setLc (i := 4) (own := [("_law_turn", 5)]) (g := gName 5) (tt := tYes) (te := tM1 (fun x xs H Q => ∃ a p, ∃ ys : List Str, x = .str a ∧ xs = [.ref p] ∧ (SqL K H p (ys.map V.str) ∨ SqT K H p (ys.map V.str)) ∧ (ys.map (·.length)).sum + ys.length * a.length ≤ 16777216 ∧ Q (.str (Txt.join a ys)) H) (tC (.str "\n")) (tCall spText [] E0 (tCons (tVar 2) tNil))) (by rfl) nod rfl rfl (sw_true rfl rfl rfl (by decide +kernel)) (pi_range1 rfl B.range (pa_cons pe_int pa_nil)) (blkOk_by (own := [("_law_turn", 5)]) (N := lawN) (sc := defScope t_law) (by decide +kernel)) (fun _ _ _ _ _ => pg_name (i := 5) nod rfl (Or.inl rfl)) (fun _ _ _ _ _ => pts_nil)
          (fun _ _ _ _ _ => by exact pe_join pe_str (pe_call GS hr rfl aS kS bS .nil pass0 (pa_cons (pv 2) pa_nil))))
      (pss_cons (ps_expr (pAppend (pv 4) (pe_join pe_str (pe_call GL hr4 rfl aL kL bL .nil pass0 (pa_cons (pv 2) pa_nil)))))
      (pss_cons (ps_for PassesOwn.never rfl (pi_list (pe_op op_cat (pv 4) (pe_lst (pa_cons (pe_ix ix_list (pv 4) pe_int (fun _ _ => rfl)) pa_nil)))) (pg_name (i := 6) nod rfl (Or.inl rfl))
        (pss_cons (ps_par (i := 7) (j := 8) (by rfl) nod rfl rfl (by decide) rfl rfl (pa_cons (pe_stat SR rfl G.g GR hr8 bR .nil pass0 (pa_cons (pv 6) pa_nil)) (pa_cons (pe_split (pv 6) pe_str) pa_nil)) (by rfl))
        (pss_cons (ps_if (PW.pt (pw_or (pt_cmpR op_ne (pe_callTy (call_strOwn PX.st PX.sf GT hr3 bT pass0) rfl B.str PyProof.Rows.boot_str (pa_cons (pv 7) pa_nil)) (pv 6) (nomark _)) (pw_or (pt_cmpR op_ne (pe_callB (call_lenOwn GN PX.ln PX.lf bN hr2) rfl B.len boot_len (pa_cons (pv 7) pa_nil)) (pLenQ B.len (pv 8)) (nomark _)) (pw_or1 (pt_cmpR (op_neD hu) (pe_lst (pa_cons (pe_fld (pv 7) rfl) (pa_cons (pe_fld (pv 7) rfl) (pa_cons (pe_fld (pv 7) rfl) pa_nil)))) (pe_call GO hr1 rfl aO kO bO .nil pass0 (pa_cons (pv 8) pa_nil)) (nomark _)))))) (pss_one (ps_ret pe_bl)) pss_nil)
        (pss_one (ps_expr (pAppend (pv 3) (pe_tup (pa_cons (pv 6) (pa_cons (pv 7) pa_nil)))))))))
      (pss_one (ps_for PassesOwn.never rfl (pi_list (pv 3)) (pg_tup rfl (pgs_cons (pg_name (i := 6) nod rfl (Or.inl rfl)) (pgs_cons (pg_name (i := 7) nod rfl (Or.inl rfl)) pgs_nil)))
        (pss_cons (ps_for PassesOwn.never rfl (pi_list (pv 3)) (pg_tup rfl (pgs_cons (pg_name (i := 9) nod rfl (Or.inl rfl)) (pgs_cons (pg_name (i := 10) nod rfl (Or.inl rfl)) pgs_nil)))
          (pss_one (ps_if (pt_cmpR (op_neD hu) (pe_lst (pa_cons (pe_cmpR (op_ownEq GE PX.eq PX.ef bE hr1) (pv 7) (pv 10) (nomark _)) (pa_cons (pe_cmpR (op_ownNe GE PX.hm PX.ne PX.eq PX.ef bE hr2) (pv 7) (pv 10) (nomark _)) pa_nil))) (pe_lst (pa_cons (pe_cmpR op_eq (pv 6) (pv 9) (nomark _)) (pa_cons (pe_cmpR op_ne (pv 6) (pv 9) (nomark _)) pa_nil))) (nomark _)) (pss_one (ps_ret pe_bl)) pss_nil)))
        (pss_one (ps_if (PW.pt (pw_or (pt_cmpR (op_ownEq GE PX.eq PX.ef bE hr1) (pv 7) (pv 6) (nomark _)) (pw_or (pt_not (pt_cmpR (op_ownNe GE PX.hm PX.ne PX.eq PX.ef bE hr2) (pv 7) (pv 6) (nomark _))) (pw_or (pt_cmpR (op_ownEq GE PX.eq PX.ef bE hr1) (pv 7) (pe_fld (pv 7) rfl) (nomark _)) (pw_or1 (pt_not (pt_cmpR (op_ownEq GE PX.eq PX.ef bE hr1) (pv 7) (pe_stat SR rfl G.g GR hr8 bR .nil pass0 (pa_cons (pv 6) pa_nil)) (nomark _)))))))) (pss_one (ps_ret pe_bl)) pss_nil))))))))))
    (pss_one (ps_ret pe_bl)), ?_⟩
  refine ⟨_, rfl, a, _, rfl, .inl hS, _, _, rfl, _, _, rfl, ?_⟩
  generalize hj : (if (if ((ns.map V.int).length : Int) < 5 then ((ns.map V.int).length : Int) else 5) > 2 then (if ((ns.map V.int).length : Int) < 5 then ((ns.map V.int).length : Int) else 5) else 2) = j
  have hj5 : 0 ≤ j ∧ j ≤ 5 := by
    rw [← hj]
    repeat' split
    all_goals omega
  refine ⟨j, rfl, by omega, by omega, for_range (lo := 0) (n := j.toNat) (fun i σ' H' => ∃ v1 v2 v3 v4 v5 v6 v7 v8 v9 v10, σ' = [some (.ref a), v1, v2, v3, v4, v5, v6, v7, v8, v9, v10] ∧ Same H H') ⟨none, none, none, none, none, none, none, none, none, none, rfl, Same.refl H⟩ ?_ ?_⟩
  · rintro i σ' H1 hi ⟨v1, v2, v3, v4, v5, v6, v7, v8, v9, v10, rfl, s1⟩
    refine nx_of ?_
    -- the box, nothing made
    refine seq_cut (t := tAsg _ _) (fun σ' H' => ∃ (b md : Addr), σ' = [some (.ref a), some (.int (0 + (i : Int))), some (.ref b), some (.ref md), v4, v5, v6, v7, v8, v9, v10] ∧ Same H H' ∧ BoxAt H' b ∧ H b = none ∧ H' md = some (.lst []) ∧ H md = none ∧ md ≠ b) (fun N hN => ?_) ?_
    · refine ⟨_, rfl, _, rfl, a, 0 + i, ns, rfl, same_lst s1 hS, fun H2 b s2 nb hb => ⟨by show 0 ≤ sizeLine; decide, fun md nmd => ⟨by show 2 ≤ sizeLine; decide, fun t nt => ?_⟩⟩⟩
      have s3 := s1.trans s2
      have t4 := same_new (o := .lst []) nmd
      have t5 := same_new (o := .tup [V.ref b, V.ref md]) nt
      refine ⟨t, _, rfl, SqT.of upd_same, rfl, _, _, rfl, _, _, rfl, ⟨rfl, hN _ _ ?_⟩⟩
      exact ⟨b, md, rfl, (s3.trans t4).trans t5, (hb.same t4).same t5, s1.free nb, t5 _ _ upd_same, s3.free nmd, (hb.ne nmd).symm⟩
    rintro σ0 H2 ⟨b, md, rfl, s2, hb2, nbH, hm2, nmH, mb⟩
    -- three texts
    refine seq_cut (t := tAsg _ _) (fun σ' H' => ∃ (lx : Addr) (txs : List Str), σ' = [some (.ref a), some (.int (0 + (i : Int))), some (.ref b), some (.ref md), some (.ref lx), v5, v6, v7, v8, v9, v10] ∧ Same H H' ∧ BoxAt H' b ∧ H' md = some (.lst []) ∧ H' lx = some (.lst (txs.map V.str)) ∧ H lx = none ∧ lx ≠ b ∧ lx ≠ md ∧ txs.length = 3 ∧ ∀ t ∈ txs, TextG t) (fun N hN => ?_) ?_
    · refine ⟨3, rfl, by decide, by decide, fun D nD => ?_⟩
      have bD : D ≠ b := (hb2.ne nD).symm
      have mD : D ≠ md := (ne_of_none hm2 nD).symm
      have nDH : H D = none := s2.free nD
      refine lc_range (lo := 0) (n := 3) (fun j H' => ∃ txs : List Str, Same H H' ∧ BoxAt H' b ∧ H' md = some (.lst []) ∧ H' D = some (.lst (txs.map V.str)) ∧ txs.length = j ∧ ∀ t ∈ txs, TextG t)
        ⟨[], Same.put s2 nDH, hb2.put bD, by rw [upd_ne mD.symm]; exact hm2, upd_same, rfl, fun t h => (nomatch h)⟩ ?_ ?_
      · rintro j H4 hj ⟨txs, s4, hb4, hm4, hD4, lt, ht⟩
        refine ⟨rfl, ?_⟩
        refine ⟨⟨_, rfl⟩, _, rfl, b, rfl, hb4, fun H5 l rows k5 hl5 T => ⟨"\n", l, rows, rfl, rfl, .inl (SqL.of hl5), ?_, txs.map V.str, k5.keep _ _ bD hD4, ?_, ?_⟩⟩
        · have h1 := sum_len (n := 30) fun z hz => (T.rw z hz).len
          have h2 : rows.length * ("\n" : Str).length = rows.length * 1 := rfl
          have h3 := T.len
          rw [h2]
          omega
        · rw [List.length_map, sizeLine_eq]; omega
        · refine ⟨txs ++ [Txt.join "\n" rows], Same.put (Same.draw s4 nbH k5) nDH, k5.box.put bD, by rw [upd_ne mD.symm]; exact k5.keep _ _ mb hm4, by rw [upd_same, List.map_append]; rfl, by rw [List.length_append, lt]; rfl, fun t h => ?_⟩
          rcases List.mem_append.mp h with q | q
          · exact ht t q
          · rw [List.mem_singleton.mp q]; exact text_of T
      · rintro H4 ⟨txs, s4, hb4, hm4, hD4, lt, ht⟩
        exact nx_of (hN _ _ ⟨D, txs, rfl, s4, hb4, hm4, hD4, nDH, bD, mD, lt, ht⟩)
    rintro σ0 H3 ⟨lx, txs, rfl, s3, hb3, hm3, hx3, nxH, xb, xm, lt3, ht3⟩
    -- a long one
    refine seq_cut (t := tDrop _) (fun σ' H' => ∃ (txs : List Str), σ' = [some (.ref a), some (.int (0 + (i : Int))), some (.ref b), some (.ref md), some (.ref lx), v5, v6, v7, v8, v9, v10] ∧ Same H H' ∧ H' md = some (.lst []) ∧ H' lx = some (.lst (txs.map V.str)) ∧ txs.length = 4 ∧ ∀ t ∈ txs, TextG t) (fun N hN => ?_) ?_
    · refine ⟨_, rfl, .inl ⟨rfl, _, SqL.of hx3⟩, ⟨_, rfl⟩, _, rfl, b, rfl, hb3, fun H5 l rows k5 hl5 T => ⟨"\n", l, rows, rfl, rfl, .inl (SqL.of hl5), ?_, lx, _, _, rfl, rfl, k5.keep _ _ xb hx3, ?_, hN _ _ ?_⟩⟩
      · have h1 := sum_len (n := 30) fun z hz => (T.rw z hz).len
        have h2 : rows.length * ("\n" : Str).length = rows.length * 1 := rfl
        have h3 := T.len
        rw [h2]
        omega
      · rw [List.length_map, sizeLine_eq]; omega
      · refine ⟨txs ++ [Txt.join "\n" rows], rfl, Same.put (Same.draw s3 nbH k5) nxH, by rw [upd_ne xm.symm]; exact k5.keep _ _ mb hm3, by rw [upd_same, List.map_append]; rfl, by rw [List.length_append, lt3]; rfl, fun t h => ?_⟩
        rcases List.mem_append.mp h with q | q
        · exact ht3 t q
        · rw [List.mem_singleton.mp q]; exact text_of T
    rintro σ0 H4 ⟨txs, rfl, s4, hm4, hx4, lt4, ht4⟩
    -- read
    refine seq_cut (t := tFor _ _ _) (fun σ' H' => ∃ (v6 v7 v8 : Option V) (its : List (Addr × Str × Addr)), σ' = [some (.ref a), some (.int (0 + (i : Int))), some (.ref b), some (.ref md), some (.ref lx), v5, v6, v7, v8, v9, v10] ∧ Same H H' ∧ MadeAt K CP H' md its) (fun N hN => ?_) ?_
    · obtain ⟨t0, ht0⟩ : ∃ t0, txs[0]? = some t0 := ⟨txs[0]'(by omega), List.getElem?_eq_getElem (by omega)⟩
      refine ⟨_, rfl, _, rfl, lx, _, 0, _, rfl, rfl, SqL.of hx4, atI_nat (j := 0) (by rw [List.getElem?_map, ht0]; rfl), by show 1 ≤ sizeLine; decide, fun p1 np1 => ?_⟩
      have t5 := same_new (o := .lst [V.str t0]) np1
      have hp1 : upd H4 p1 (.lst [V.str t0]) p1 = some (.lst ([t0].map V.str)) := upd_same
      have hx5 := t5 _ _ hx4
      have hm5 := t5 _ _ hm4
      have s5 := s4.trans t5
      generalize upd H4 p1 (.lst [V.str t0]) = H5 at hp1 hx5 hm5 s5 ⊢
      refine ⟨lx, p1, _, _, rfl, rfl, hx5, hp1, by rw [List.length_map, List.length_map, lt4, sizeLine_eq]; show 4 + 1 ≤ _; decide, fun p2 np2 => ?_⟩
      have t6 := same_new (o := .lst (txs.map V.str ++ [t0].map V.str)) np2
      have hp2 : upd H5 p2 (.lst (txs.map V.str ++ [t0].map V.str)) p2 = some (.lst ((txs ++ [t0]).map V.str)) := by rw [upd_same, List.map_append]
      have m2 : p2 ≠ md := (ne_of_none hm5 np2).symm
      have hm6 := t6 _ _ hm5
      have s6 := s5.trans t6
      generalize upd H5 p2 (.lst (txs.map V.str ++ [t0].map V.str)) = H6 at hp2 hm6 s6 ⊢
      have htx : ∀ t ∈ txs ++ [t0], TextG t := fun t h => by
        rcases List.mem_append.mp h with q | q
        · exact ht4 t q
        · rw [List.mem_singleton.mp q]; exact ht4 t0 (List.mem_of_getElem? ht0)
      have lal : (txs ++ [t0]).length = 5 := by rw [List.length_append, lt4]; rfl
      refine ⟨p2, rfl, ⟨_, SqL.of hp2⟩, for_list (K := K) (a := p2) (xs := (txs ++ [t0]).map V.str) (fun j σ' H' => ∃ (v6 v7 v8 : Option V) (its : List (Addr × Str × Addr)), σ' = [some (.ref a), some (.int (0 + (i : Int))), some (.ref b), some (.ref md), some (.ref lx), v5, v6, v7, v8, v9, v10] ∧ Kp md H6 H' ∧ MadeAt K CP H' md its ∧ its.length = j)
        ⟨v6, v7, v8, [], rfl, Kp.of (Same.refl _), ⟨hm6, fun j x h => by cases h⟩, rfl⟩ (fun j σ' H' _ q => by
          obtain ⟨_, _, _, _, _, kp, _⟩ := q
          exact SqL.of (kp _ _ hp2 m2)) ?_ ?_⟩
      · rintro j x σ' H7 hj ⟨v6, v7, v8, its, rfl, kp, M, li⟩
        obtain ⟨t, ht, rfl⟩ : ∃ t, (txs ++ [t0])[j]? = some t ∧ x = V.str t := by
          rw [List.getElem?_map] at hj
          cases e : (txs ++ [t0])[j]? with
          | none => rw [e] at hj; cases hj
          | some y => rw [e] at hj; exact ⟨y, rfl, (Option.some.inj hj).symm⟩
        have hj5 : j < 5 := by rw [← lal]; exact (List.getElem?_eq_some_iff.mp ht).1
        have TG := htx t (List.mem_of_getElem? ht)
        have TL := TG.r.len
        refine nx_of ?_
        -- the program, its rows
        refine seq_cut (t := tPar _ _ _) (fun σ' H' => ∃ (p r dx ra ja wa ga : Addr) (L : Lay) (js ws gs : List Str) (st : RS), σ' = [some (.ref a), some (.int (0 + (i : Int))), some (.ref b), some (.ref md), some (.ref lx), v5, some (.str t), some (.ref p), some (.ref r), v9, v10] ∧ Same H7 H' ∧ H7 p = none ∧ H' r = some (.lst ((Txt.split t "\n").map V.str)) ∧ H' p = some (.ins CP dx (pflds L ra ja wa ga)) ∧ SqT K H' ra ((Txt.split t "\n").map V.str) ∧ SqT K H' ja (js.map V.str) ∧ SqT K H' wa (ws.map V.str) ∧ SqT K H' ga (gs.map V.str) ∧ Told (Txt.split t "\n") st ∧ Asc js (nmIn ["job"] (Txt.split t "\n")) ∧ Asc ws (nmIn ["walk"] (Txt.split t "\n")) ∧ Asc gs (nmIn ["wait", "open"] (Txt.split t "\n"))) (fun N hN => ?_) ?_
        · refine ⟨_, rfl, t, rfl, TG, fun H8 p st L js ws gs T s8 np TT A8 => ?_⟩
          obtain ⟨dx, ra, ja, wa, ga, hp, q1, q2, q3, q4⟩ := A8.at_
          refine ⟨_, rfl, ⟨_, rfl⟩, _, _, rfl, rfl, by decide +kernel, ?_, fun r nr => ⟨_, _, rfl, nx_mk (hN _ _ ?_)⟩⟩
          · have := TG.len
            rw [sizeLine_eq]; omega
          have t9 := same_new (o := .lst ((Txt.split t "\n").map V.str)) nr
          exact ⟨p, r, dx, ra, ja, wa, ga, L, js, ws, gs, st, rfl, s8.trans t9, np, upd_same, t9 _ _ hp, same_t t9 q1, same_t t9 q2, same_t t9 q3, same_t t9 q4, TT, by rw [← TT.jobs]; exact ⟨A8.js.1, A8.js.2.1, A8.js.2.2⟩, by rw [← TT.walks]; exact ⟨A8.ws.1, A8.ws.2.1, A8.ws.2.2⟩, by rw [← TT.gates]; exact ⟨A8.gs.1, A8.gs.2.1, A8.gs.2.2⟩⟩
        rintro σ1 H8 ⟨p, r, dx, ra, ja, wa, ga, L, js, ws, gs, st, rfl, s8, np, hr8, hp8, q1, q2, q3, q4, TT, Aj, Aw, Ag⟩
        have l100 := TG.r.len
        have rrw := TG.r.rw
        have pln : ∀ z ∈ Txt.split t "\n", Pln z := fun z hz => (rrw z hz).pln
        have K8 : Pk K CP H8 t p := ⟨⟨dx, ra, ja, _, js, hp8, rfl, q1, rfl, q2⟩, pln⟩
        have hm8 := s8 _ _ M.at_
        have M8 := M.same s8
        refine seq_cut (t := tIfS _ _ _) (fun σ' H' => σ' = [some (.ref a), some (.int (0 + (i : Int))), some (.ref b), some (.ref md), some (.ref lx), v5, some (.str t), some (.ref p), some (.ref r), v9, v10] ∧ Same H8 H') (fun N2 hN2 => ?_) ?_
        · refine ⟨_, rfl, p, dx, _, rfl, hp8, ⟨p, dx, ra, _, t, rfl, hp8, rfl, TG.len, q1, ⟨_, rfl⟩, _, rfl, rfl, _, rfl, iteF' (by simp) ?_⟩⟩
          refine ⟨_, rfl, p, dx, _, rfl, hp8, ⟨p, dx, ra, _, _, rfl, hp8, rfl, q1, _, by omega, rfl, _, rfl, r, _, rfl, .inl (SqL.of hr8), rfl, _, rfl, iteF' (by simp) ?_⟩⟩
          refine ⟨_, rfl, p, CP, dx, _, _, rfl, hp8, G.cl, G.j, rfl, _, rfl, p, CP, dx, _, _, rfl, hp8, G.cl, G.w, rfl, _, rfl, p, CP, dx, _, _, rfl, hp8, G.cl, G.ga, rfl, by show 3 ≤ sizeLine; decide, fun o1 no1 => ?_⟩
          have t9 := same_new (o := .lst [V.ref ja, V.ref wa, V.ref ga]) no1
          have ho1 : upd H8 o1 (.lst [V.ref ja, V.ref wa, V.ref ga]) o1 = some (.lst [V.ref ja, V.ref wa, V.ref ga]) := upd_same
          have q2 := same_t t9 q2
          have q3 := same_t t9 q3
          have q4 := same_t t9 q4
          have hr9 := t9 _ _ hr8
          generalize upd H8 o1 (.lst [V.ref ja, V.ref wa, V.ref ga]) = H9 at t9 ho1 q2 q3 q4 hr9 ⊢
          refine ⟨_, rfl, r, _, rfl, hr9, fun z hz => (rrw z hz).len, l100, TT.two, fun ws hws => ?_, fun Ha fo ts sa Ta l3 => ?_⟩
          · rcases List.mem_cons.mp hws with q | hws
            · rw [q]; exact few_of (Nat.lt_of_le_of_lt TT.j6 (by decide))
            rcases List.mem_cons.mp hws with q | hws
            · rw [q]; exact few_of (Nat.lt_of_le_of_lt TT.w6 (by decide))
            · rw [List.mem_singleton.mp hws]; exact TG.r.few
          obtain ⟨x1, x2, x3, rfl⟩ : ∃ x1 x2 x3, ts = [x1, x2, x3] := by
            match ts, l3 with
            | [x1, x2, x3], _ => exact ⟨x1, x2, x3, rfl⟩
          obtain ⟨g1, A1⟩ := Ta.its 0 x1 rfl
          obtain ⟨g2, A2⟩ := Ta.its 1 x2 rfl
          obtain ⟨g3, A3⟩ := Ta.its 2 x3 rfl
          have e1 : x1.2 = js := A1.eq Aj fun _ => Iff.rfl
          have e2 : x2.2 = ws := A2.eq Aw fun _ => Iff.rfl
          have e3 : x3.2 = gs := A3.eq Ag fun _ => Iff.rfl
          rw [e1] at g1
          rw [e2] at g2
          rw [e3] at g3
          have p1 : ∀ z ∈ js, Pln z := fun z hz => nm_pln rrw z ((Aj.m z).mp hz)
          have p2 : ∀ z ∈ ws, Pln z := fun z hz => nm_pln rrw z ((Aw.m z).mp hz)
          have p3 : ∀ z ∈ gs, Pln z := fun z hz => nm_pln rrw z ((Ag.m z).mp hz)
          have sh := three_shaped p1 p2 p3
          refine ⟨_, _, .lst (SqL.of (sa _ _ ho1)) (.cons (.tup (same_t sa q2) (dp_strs js)) (.cons (.tup (same_t sa q3) (dp_strs ws)) (.cons (.tup (same_t sa q4) (dp_strs gs)) .nil))),
            .lst (SqL.of Ta.at_) (.cons (.tup (SqT.of g1) (dp_strs js)) (.cons (.tup (SqT.of g2) (dp_strs ws)) (.cons (.tup (SqT.of g3) (dp_strs gs)) .nil))), sh, sh, _, rfl, iteF' ?_ (nx_mk (hN2 _ _ ⟨rfl, t9.trans sa⟩))⟩
          rw [three_eqv]
          rfl
        rintro σ2 H9 ⟨rfl, s9⟩
        have M9 := M8.same s9
        have K9 := K8.same s9
        have hm9 := M9.at_
        refine ⟨_, rfl, .inl ⟨rfl, _, SqL.of hm9⟩, _, rfl, _, rfl, by show 2 ≤ sizeLine; decide, fun tp ntp => ?_⟩
        have ta := same_new (o := .tup [V.str t, V.ref p]) ntp
        have htp : upd H9 tp (.tup [V.str t, V.ref p]) tp = some (.tup [V.str t, V.ref p]) := upd_same
        have tm : tp ≠ md := (ne_of_none hm9 ntp).symm
        have Ma := M9.same ta
        have Ka := K9.same ta
        generalize upd H9 tp (.tup [V.str t, V.ref p]) = Ha at ta htp Ma Ka ⊢
        refine ⟨md, _, _, rfl, rfl, Ma.at_, by rw [List.length_map, sizeLine_eq]; omega, ?_⟩
        have keep : ∀ q o, Ha q = some o → q ≠ md → upd Ha md (.lst (its.map (fun x => V.ref x.1) ++ [V.ref tp])) q = some o := fun q o e n => by rw [upd_ne n]; exact e
        refine ⟨_, _, _, its ++ [(tp, t, p)], rfl, fun q o e n => keep q o (ta _ _ (s9 _ _ (s8 _ _ (kp q o e n)))) n, ⟨by rw [upd_same, List.map_append]; rfl, fun j' x hx => ?_⟩, by rw [List.length_append, li]; rfl⟩
        by_cases c : j' < its.length
        · rw [List.getElem?_append_left c] at hx
          obtain ⟨y1, y2, y3⟩ := Ma.its j' x hx
          have xm' : x.1 ≠ md := by
            rintro e
            rw [e, Ma.at_] at y1
            cases y1
          exact ⟨keep _ _ y1 xm', y2.kp keep ⟨_, Ma.at_⟩, y3⟩
        · rw [List.getElem?_append_right (by omega)] at hx
          have j0 : j' - its.length = 0 := by
            have := (List.getElem?_eq_some_iff.mp hx).1
            rw [List.length_singleton] at this
            omega
          rw [j0] at hx
          obtain rfl : (tp, t, p) = x := Option.some.inj hx
          exact ⟨keep _ _ htp tm, Ka.kp keep ⟨_, Ma.at_⟩, TG⟩
      · rintro σ' H7 ⟨v6, v7, v8, its, rfl, kp, M, li⟩
        exact hN _ _ ⟨v6, v7, v8, its, rfl, fun q o e => kp q o (s6 _ _ e) (ne_of_none e nmH), M⟩
    rintro σ0 H5 ⟨v6', v7', v8', its, rfl, s5, M⟩
    -- each with each
    refine ⟨_, rfl, md, rfl, ⟨_, SqL.of M.at_⟩, for_list (K := K) (a := md) (xs := its.map fun x => V.ref x.1) (fun j σ' H' => ∃ (v6 v7 v9 v10 : Option V), σ' = [some (.ref a), some (.int (0 + (i : Int))), some (.ref b), some (.ref md), some (.ref lx), v5, v6, v7, v8', v9, v10] ∧ Same H5 H')
      ⟨v6', v7', v9, v10, rfl, Same.refl _⟩ (fun j σ' H' _ q => by
        obtain ⟨_, _, _, _, _, sx⟩ := q
        exact SqL.of (sx _ _ M.at_)) ?_ ?_⟩
    · rintro j x σ' H6 hj ⟨v6, v7, v9, v10, rfl, s6⟩
      obtain ⟨y, hy, rfl⟩ : ∃ y, its[j]? = some y ∧ x = V.ref y.1 := by
        rw [List.getElem?_map] at hj
        cases e : its[j]? with
        | none => rw [e] at hj; cases hj
        | some y => rw [e] at hj; exact ⟨y, rfl, (Option.some.inj hj).symm⟩
      obtain ⟨y1, K6, TG⟩ := (M.same s6).its j y hy
      obtain ⟨ty, t, p⟩ := y
      dsimp only at y1 K6 TG ⊢
      refine ⟨ty, _, rfl, SqT.of y1, rfl, _, _, rfl, _, _, rfl, ⟨rfl, nx_of ?_⟩⟩
      refine seq_cut (t := tFor _ _ _) (fun σ' H' => ∃ (v9 v10 : Option V), σ' = [some (.ref a), some (.int (0 + (i : Int))), some (.ref b), some (.ref md), some (.ref lx), v5, some (.str t), some (.ref p), v8', v9, v10] ∧ Same H6 H') (fun N hN => ?_) ?_
      · have M6 := M.same s6
        refine ⟨_, rfl, md, rfl, ⟨_, SqL.of M6.at_⟩, for_list (K := K) (a := md) (xs := its.map fun x => V.ref x.1) (fun j σ' H' => ∃ (v9 v10 : Option V), σ' = [some (.ref a), some (.int (0 + (i : Int))), some (.ref b), some (.ref md), some (.ref lx), v5, some (.str t), some (.ref p), v8', v9, v10] ∧ Same H6 H')
          ⟨v9, v10, rfl, Same.refl _⟩ (fun j σ' H' _ q => by
            obtain ⟨_, _, _, sx⟩ := q
            exact SqL.of (sx _ _ M6.at_)) ?_ ?_⟩
        · rintro j2 x σ' H7 hj2 ⟨v9, v10, rfl, s7⟩
          obtain ⟨z, hz, rfl⟩ : ∃ z, its[j2]? = some z ∧ x = V.ref z.1 := by
            rw [List.getElem?_map] at hj2
            cases e : its[j2]? with
            | none => rw [e] at hj2; cases hj2
            | some y => rw [e] at hj2; exact ⟨y, rfl, (Option.some.inj hj2).symm⟩
          obtain ⟨z1, K7, TG2⟩ := (M6.same s7).its j2 z hz
          obtain ⟨tz, t2, p2⟩ := z
          dsimp only at z1 K7 TG2 ⊢
          have K7' := K6.same s7
          refine ⟨tz, _, rfl, SqT.of z1, rfl, _, _, rfl, _, _, rfl, ⟨rfl, ?_⟩⟩
          refine ⟨_, rfl, _, rfl, pk_pk PX G K7' K7 ⟨_, rfl, _, rfl, pk_pk PX G K7' K7 ⟨by show 2 ≤ sizeLine; decide, fun o1 no1 => ?_⟩⟩⟩
          rw [if_neg Bool.false_ne_true, if_pos rfl]
          have t8 := same_new (o := .lst [V.bl (decide (t = t2)), V.bl (!decide (t = t2))]) no1
          have ho1 : upd H7 o1 (.lst [V.bl (decide (t = t2)), V.bl (!decide (t = t2))]) o1 = some (.lst [V.bl (decide (t = t2)), V.bl (!decide (t = t2))]) := upd_same
          generalize upd H7 o1 (.lst [V.bl (decide (t = t2)), V.bl (!decide (t = t2))]) = H8 at t8 ho1 ⊢
          refine ⟨_, rfl, _, rfl, rfl, _, rfl, _, rfl, rfl, by show 2 ≤ sizeLine; decide, fun o2 no2 => ?_⟩
          rw [eq_str]
          have t9 := same_new (o := .lst [V.bl (decide (t = t2)), V.bl (!decide (t = t2))]) no2
          have ho2 : upd H8 o2 (.lst [V.bl (decide (t = t2)), V.bl (!decide (t = t2))]) o2 = some (.lst [V.bl (decide (t = t2)), V.bl (!decide (t = t2))]) := upd_same
          have ho1 := t9 _ _ ho1
          generalize upd H8 o2 (.lst [V.bl (decide (t = t2)), V.bl (!decide (t = t2))]) = H9 at t9 ho1 ho2 ⊢
          generalize decide (t = t2) = e at ho1 ho2 ⊢
          have sh : SeqAt.shaped (.list [.bool e, .bool (!e)]) = true := by cases e <;> decide
          refine ⟨_, _, .lst (SqL.of ho1) (.cons (.bl _) (.cons (.bl _) .nil)), .lst (SqL.of ho2) (.cons (.bl _) (.cons (.bl _) .nil)), sh, sh, _, rfl, iteF' ?_ (nx_mk ⟨_, _, rfl, s7.trans (t8.trans t9)⟩)⟩
          cases e <;> rfl
        · rintro σ' H7 ⟨v9, v10, rfl, s7⟩
          exact hN _ _ ⟨v9, v10, rfl, s7⟩
      rintro σ0 H7 ⟨v9', v10', rfl, s7⟩
      have K7 := K6.same s7
      obtain ⟨dx, ra, ja, fs, js, hp7, l1, q1, l2, q2⟩ := K7.at_
      refine ⟨_, rfl, _, rfl, pk_other K7 (TyX.base (.str t)) PX.ks PX.ns ⟨_, rfl, iteF' rfl ?_⟩⟩
      refine ⟨_, rfl, _, rfl, pk_other K7 (TyX.base (.str t)) PX.ks PX.ns ⟨_, rfl, iteF' rfl ?_⟩⟩
      refine ⟨_, rfl, _, rfl, p, CP, dx, _, _, rfl, hp7, G.cl, G.j, l2, pk_other K7 (tyX_tup q2) PX.kt PX.nt ⟨_, rfl, iteF' rfl ?_⟩⟩
      refine ⟨_, rfl, _, rfl, t, rfl, TG, fun H8 p8 st L js' ws gs T s8 np TT A8 => ?_⟩
      obtain ⟨dx8, ra8, ja8, wa8, ga8, hp8, r1, r2, _, _⟩ := A8.at_
      refine pk_pk PX G (K7.same s8) ⟨⟨dx8, ra8, ja8, _, js', hp8, rfl, r1, rfl, r2⟩, K7.pln⟩ ⟨_, rfl, iteF' ?_ (nx_mk ⟨_, _, _, _, rfl, s6.trans (s7.trans s8)⟩)⟩
      rw [if_neg Bool.false_ne_true, decide_eq_true rfl]
      rfl
    · rintro σ' H6 ⟨v6, v7, v9, v10, rfl, s6⟩
      exact ⟨_, _, _, _, _, _, _, _, _, _, rfl, s5.trans s6⟩
  · rintro σ' H1 ⟨v1, v2, v3, v4, v5, v6, v7, v8, v9, v10, rfl, s1⟩
    exact hQ _
end
end Ly
end
section
set_option Elab.async false
set_option linter.all false
set_option maxRecDepth 100000
/-! The law called by its caller, where nothing is being shown. -/
namespace Ly
open PySem PySem.Spec PyProof.Rows L2
section
variable {P : Program} {w : World} {K : PySem.W.Frag} {mg : Str → Option Value}
/-- the body's promise, where nothing is being shown -/
def BodyG (P : Program) (w : World) (K : PySem.W.Frag) (mg : Str → Option Value) (base : Heap) (f : Addr) : Prop :=
  ∀ (cdv : Value) (A : Around) (outer : List Env) (s : Shared) (H : Hp) (Q : VK) (E : XK), A.guards = some [] → Room 18 (A.deeper (envOfC "law" (defScope t_law) s.heap.objs.size f cdv)) → ∀ (a : Addr) (ns : List Int), SqL K H a (ns.map V.int) → (∀ H', Q (.bl true) H') →
    ∃ t, PSs (cxOf CX0 P w K mg base lawN "law" (defScope t_law) f cdv A outer s H E).nox (defBody t_law) t ∧ t { nx := fun _ H' => Q .non H', rt := Q } (start lawN [.ref a]) H
theorem law_enter {base : Heap} {f : Addr} {fd : FuncData} (F : Fun K "law" "law" t_law f fd) (body : BodyG P w K mg base f) {A : Around} {s : Shared} {H : Hp} {a : Addr} {ns : List Int}
    (hg : A.guards = some []) (hr : Room 19 A) (e0 : Env0 P w K mg base A [] s H) (hb : BindsTo s fd ⟨[.ref a], []⟩ [("_law_script", .ref a)]) (hS : SqL K H a (ns.map V.int)) :
    codeAny (model P w) A (.call (.ref f) ⟨[.ref a], []⟩) (CR CX0 [] P w H s (fun v _ => v = .bl true) fun _ _ _ => False) s := by
  obtain ⟨oc, od, kV, doc, pm, an, cdv, ct, osl, hfd, lk, hcd⟩ := F.ex
  subst hfd
  have old : ∀ b o, base.get? b = some o → s.heap.get? b = some o := fun b o e => (e0.bs b o e).1
  have inK := e0.mod.kin.keeps old
  have one : ∀ y ∈ [(("_law_script" : Str), Value.ref a)], (defScope t_law).names.lookup y.1 = some .local ∨ ((defScope t_law).names.lookup y.1 = some .cell ∧ ((cellsFrom (s.heap.objs.size + 1) (defScope t_law).names []).lookup y.1).isSome = true) := by
    intro y hy
    obtain rfl := List.mem_singleton.mp hy
    exact .inl (show (defScope t_law).names.lookup ("_law_script" : Str) = some NameKind.local by decide +kernel)
  refine codeAny_call_function hr.depth (inK _ _ lk) rfl sc_law.co sc_law.gen rfl
    (PySem.W.codeRec_of inK hcd) (hb _ _ _ _ (wpAny_newFunctionEnv_cells sc_law.kind one fun env henv s1 entered => ?_))
  subst henv
  refine ⟨(e0.mod.nolimit.keeps old).keeps entered.toInCall.keep, codeAny_func ?_⟩
  obtain ⟨t, told, asked⟩ := body cdv A [] s H (fun v _ => v = .bl true) (fun _ _ _ => False) hg (hr.deeper _) a ns hS fun _ => rfl
  have begun := inv_start (CX := CX0) (E := fun _ _ _ => False) (vs := [V.ref a]) (us := [Value.ref a]) sc_law hr.hd e0 rfl (.cons rfl .nil) entered
  refine wpAny_mono (told.nox.run [] s1 (start lawN [.ref a]) H _ begun asked) (fun fl s2 out => ?_) (fun e s2 out => out)
  cases fl with
  | ret u =>
    obtain ⟨v, σ2, H2, J, rv, q⟩ := out
    exact ⟨v, H2, J.os, J.bare, J.base, J.hok, rv, q⟩
  | next =>
    obtain ⟨σ2, H2, J, q⟩ := out
    cases q
  | brk =>
    obtain ⟨σ2, H2, J, q⟩ := out
    exact q.elim
  | cont =>
    obtain ⟨σ2, H2, J, q⟩ := out
    exact q.elim
/-- from what is tracked (the script alone, or nothing) to what the caller asks -/
theorem law_out {mb : Str → Option Value} {fa a : Addr} {s₁ : Shared} {its : Array Value} {H : Hp}
    (KX : K.In s₁.heap) (hns : s₁.heap.Ns mainGlobals mg) (hb : s₁.heap.Ns builtinsNs mb) (hbb : ∀ x : Str, x ≠ "__name__" → mb x = bootBuiltins x) (hlim : s₁.heap.NoLimit) (hgen : s₁.gens = #[])
    (ha : s₁.heap.get? a = some { cls := .type "list", data := .seq its }) (hok : HOk P w H s₁.heap) (lone : ∀ b u, H b = some u → b = a ∧ K.lookup a = none ∧ ∃ o xs, u = .frz o (.lst xs))
    (run : ∀ base : Heap, K.In base → base.Ns mainGlobals mg → Env0 P w K mg base callerA [] s₁ H → codeAny (model P w) callerA (.call (.ref fa) ⟨[.ref a], []⟩) (CR CX0 [] P w H s₁ (fun v _ => v = .bl true) fun _ _ _ => False) s₁) :
    codeAny (model P w) callerA (.call (.ref fa) ⟨[.ref a], []⟩) (fun r s' => r = .ok (.ret (.bool true)) ∧ OldK s₁.heap s'.heap ∧ s'.os = s₁.os ∧ AllBare s'.gens) s₁ := by
  have dictFree : ∀ {b : Addr} {o : Obj} {es : Array DictEntry} {n : Nat}, s₁.heap.get? b = some o → o.data = .dict es n → H b = none := by
    intro b o es n e d
    cases q : H b with
    | none => rfl
    | some u =>
      obtain ⟨rfl, _⟩ := lone b u q
      rw [ha] at e
      cases e
      cases (show Data.seq its _ = Data.dict es n from d)
  have wrt : ∀ {b : Addr} {o : Obj}, K.lookup b = some o → H b = none := by
    intro b o e
    cases q : H b with
    | none => rfl
    | some u =>
      obtain ⟨rfl, hn, _⟩ := lone b u q
      rw [hn] at e
      cases e
  have ns : ∀ {b : Addr} {m : Str → Option Value}, s₁.heap.Ns b m → (hidT s₁.heap H).Ns b m := by
    rintro b m ⟨o, es, n, e, d, rest⟩
    exact ⟨o, es, n, hidT_get e (dictFree e d), d, rest⟩
  have hK : K.In (hidT s₁.heap H) := fun b o e => hidT_get (KX b o e) (wrt e)
  obtain ⟨mc, hc1, hc2⟩ := hlim
  have envOk : Env0 P w K mg (hidT s₁.heap H) callerA [] s₁ H :=
    { frames := rfl, mod := ⟨hK, ns hns, ⟨mb, ns hb, hbb⟩, ⟨mc, ns hc1, hc2⟩⟩, bs := fun b o e => of_hidT e, bsz := Nat.le_of_eq (hidT_size _ _), funs := trivial,
      frf := fun b h => (by cases (show b ∈ ([] : List Addr) from h)), hok := hok, bare := .of_eq hgen }
  refine codeAny_mono (run _ hK (ns hns) envOk) ?_
  intro r s' h
  match r, h with
  | .error e, h => exact False.elim h
  | .ok .next, h => exact False.elim h
  | .ok .brk, h => exact False.elim h
  | .ok .cont, h => exact False.elim h
  | .ok (.ret u), h =>
    obtain ⟨v, H', os, bare, un, hok', rv, q⟩ := h
    obtain rfl : v = .bl true := q
    obtain rfl : u = Value.bool true := rv
    refine ⟨rfl, OldK.of_keep fun b o e => ?_, os, bare⟩
    cases q : H b with
    | none => exact un.keep b o e q (fun z => by cases (show b ∈ ([] : List Addr) from z)) (fun z => by cases z)
    | some u =>
      obtain ⟨_, _, ob, xs, rfl⟩ := lone b u q
      have here := (hok b _ q).1
      have there := (hok' b _ (un.frzs b ob _ q)).1
      rw [e] at here
      cases here
      exact there
/-- the law at its script -/
theorem law_go {mb : Str → Option Value} {fa a : Addr} {fd : FuncData} {s₁ : Shared} {vs : List Value} {ns : List Int} (F : Fun K "law" "law" t_law fa fd)
    (KX : K.In s₁.heap) (hns : s₁.heap.Ns mainGlobals mg) (hb : s₁.heap.Ns builtinsNs mb) (hbb : ∀ x : Str, x ≠ "__name__" → mb x = bootBuiltins x) (hlim : s₁.heap.NoLimit) (hgen : s₁.gens = #[])
    (ha : s₁.heap.get? a = some { cls := .type "list", data := .seq vs.toArray }) (hi : IntsAre vs ns) (hl : ns.length ≤ sizeLine) (hr : Room 19 callerA)
    (body : ∀ base : Heap, K.In base → base.Ns mainGlobals mg → BodyG P w K mg base fa) (hbind : ∀ (s : Shared) (u : Value), BindsTo s fd ⟨[u], []⟩ [("_law_script", u)]) :
    codeAny (model P w) callerA (.call (.ref fa) ⟨[.ref a], []⟩) (fun r s' => r = .ok (.ret (.bool true)) ∧ OldK s₁.heap s'.heap ∧ s'.os = s₁.os ∧ AllBare s'.gens) s₁ := by
  have rv := vals_ints hi
  have lv := hi.length
  cases hk : K.lookup a with
  | some o =>
    have e := (KX a o hk).symm.trans ha
    cases Option.some.inj e
    refine law_out (H := fun _ => none) KX hns hb hbb hlim hgen ha (fun b u z => by cases z) (fun b u z => by cases z) fun base h1 h2 e0 => ?_
    exact law_enter F (body base h1 h2) (ns := ns) rfl hr e0 (hbind _ _) (.inr ⟨_, vs.toArray, _, hk, rfl, rfl, rfl, by rw [List.size_toArray, lv]; exact hl, by simpa using rv⟩)
  | none =>
    refine law_out (H := fun b => if b = a then some (.frz { cls := .type "list", data := .seq vs.toArray } (.lst (ns.map V.int))) else none) KX hns hb hbb hlim hgen ha (fun b u z => ?_) (fun b u z => ?_) fun base h1 h2 e0 => ?_
    · by_cases hba : b = a
      · have z := (if_pos hba).symm.trans z
        cases z
        subst hba
        exact ⟨ha, by rw [List.length_map]; exact hl, vs, _, rv, ha⟩
      · have z := (if_neg hba).symm.trans z
        cases z
    · by_cases hba : b = a
      · have z := (if_pos hba).symm.trans z
        cases z
        exact ⟨hba, hk, _, _, rfl⟩
      · have z := (if_neg hba).symm.trans z
        cases z
    · exact law_enter F (body base h1 h2) (ns := ns) rfl hr e0 (hbind _ _) (.inl (.inr ⟨{ cls := .type "list", data := .seq vs.toArray }, if_pos rfl⟩))
end
/-- the head's goal, from the body's promise -/
theorem walk_G {l : PySem.W.OpenLaw} {n : Nat} {q : Program} {loose : List Str} {XP : (Str → Option Value) → Heap → Prop} {YP : World → Heap → Prop} {d : DefRec} {K : Params → PySem.W.Frag}
    (hn : l.most = some n) (hn2 : n ≤ sizeLine) (hdf : d.params.defaults = []) (hr : Room 19 callerA) (hY : ∀ (w : World) (h : Heap), YP w h → (K w.params).In h)
    (F : ∀ (w : World) (mg : Str → Option Value) (fa : Addr) (h : Heap), (K w.params).In h → h.Ns mainGlobals mg → mg d.name = some (.ref fa) →
      ∃ fd : FuncData, Fun (K w.params) "law" "law" t_law fa fd ∧ (∀ (s : Shared) (u : Value), BindsTo s fd ⟨[u], []⟩ [("_law_script", u)]) ∧ ∀ base : Heap, (K w.params).In base → base.Ns mainGlobals mg → BodyG l.prog w (K w.params) mg base fa) :
    PySem.W.WalkO q loose XP YP l.row.toRowW d [] (fun f vs => PySem.call f vs) := by
  refine Att.attach_call hn hdf ?_
  intro w s₀ s₁ mg mb fa o pm cd doc a vs ns G Y ho hd hcd hmg hobj hints hlen hgen
  obtain ⟨fd, fn, bind, body⟩ := F w mg fa _ (hY w _ Y) G.T.g hmg
  exact law_go fn (hY w _ Y) G.T.g G.T.b G.T.builtins G.T.nolimit hgen hobj hints (Nat.le_trans hlen hn2) hr body bind
end Ly
end
section
set_option Elab.async false
set_option linter.all false
set_option maxRecDepth 100000
set_option maxHeartbeats 4000000
/-! What the top has written, gathered. -/
namespace Ly
open PySem PySem.Spec PyProof.Rows PySem.HandSPX L2
/-- values that are texts -/
def strsOf : List Value → Option (List Str)
  | [] => some []
  | .str z _ :: r => (strsOf r).map (z :: ·)
  | _ => none
theorem strs_vals : ∀ {us : List Value} {zs : List Str}, strsOf us = some zs → Vals (zs.map V.str) us ∧ zs.length = us.length
  | [], zs, e => by
    cases Option.some.inj e
    exact ⟨.nil, rfl⟩
  | u :: r, zs, e => by
    cases u with
    | str z t =>
      have e : (strsOf r).map (z :: ·) = some zs := e
      cases q : strsOf r with
      | none => rw [q] at e; cases e
      | some ys =>
        rw [q] at e
        cases Option.some.inj e
        obtain ⟨h1, h2⟩ := strs_vals q
        exact ⟨.cons ⟨t, rfl⟩ h1, by rw [List.length_cons, List.length_cons, h2]⟩
    | _ => cases e
theorem tup_here {K : PySem.W.Frag} {a : Addr} {od : Option Addr} {its : Array Value} {n : Nat} {sl : Array (Option Value)} {zs : List Str} (l : K.lookup a = some ⟨.type "tuple", od, .seq its n, sl⟩) (v : strsOf its.toList = some zs) (hz : zs.length ≤ 1000) :
    ∀ H, SqT K H a (zs.map V.str) := fun H => by
  obtain ⟨h1, h2⟩ := strs_vals v
  refine .inr ⟨_, its, n, l, rfl, rfl, ?_, h1⟩
  rw [← Array.length_toList, ← h2, sizeLine_eq]
  omega
def tupB (K : PySem.W.Frag) (t : Addr) (zs : List Str) : Bool := match K.lookup t with
  | some ⟨.type c, _, .seq its _, _⟩ => c == "tuple" && (match strsOf its.toList with | some ys => ys == zs | none => false)
  | _ => false
theorem tup_ok {K : PySem.W.Frag} {t : Addr} {zs : List Str} (h : tupB K t zs = true) (hz : zs.length ≤ 1000) : ∀ H, SqT K H t (zs.map V.str) := by
  unfold tupB at h
  split at h
  · rename_i c od its n sl e
    obtain ⟨h1, h2⟩ := Bool.and_eq_true_iff.mp h
    have h1 : c = "tuple" := eq_of_beq h1
    subst h1
    split at h2
    · rename_i ys q
      have h2 : ys = zs := eq_of_beq h2
      subst h2
      exact tup_here e q hz
    · cases h2
  · cases h
def formsB (K : PySem.W.Frag) : List DictEntry → List (Str × List Str) → Bool
  | [], [] => true
  | e :: es, p :: fs => (match e.key with | .str z _ => z == p.1 | _ => false) && ((match e.val with | .ref t => tupB K t p.2 | _ => false) && formsB K es fs)
  | _, _ => false
theorem forms_find {K : PySem.W.Frag} (z : Str) : ∀ {es : List DictEntry} {fs : List (Str × List Str)}, formsB K es fs = true → (es.any (·.refKey) = false) ∧ (match fs.find? fun p => decide (p.1 = z) with
    | none => es.find? (·.key.isStr z) = none
    | some p => ∃ e t, es.find? (·.key.isStr z) = some e ∧ e.val = .ref t ∧ tupB K t p.2 = true)
  | [], [], _ => ⟨rfl, rfl⟩
  | [], _ :: _, h => by cases h
  | _ :: _, [], h => by cases h
  | e :: es, p :: fs, h => by
    obtain ⟨h1, h⟩ := Bool.and_eq_true_iff.mp h
    obtain ⟨h2, h3⟩ := Bool.and_eq_true_iff.mp h
    obtain ⟨i1, i2⟩ := forms_find z h3
    obtain ⟨x, tk, hk, hx⟩ : ∃ x tk, e.key = .str x tk ∧ x = p.1 := by
      split at h1
      · rename_i x tk q
        exact ⟨x, tk, q, eq_of_beq h1⟩
      · cases h1
    subst hx
    obtain ⟨t, hv, ht⟩ : ∃ t, e.val = .ref t ∧ tupB K t p.2 = true := by
      split at h2
      · rename_i t q
        exact ⟨t, q, h2⟩
      · cases h2
    have rk : e.refKey = false := by unfold DictEntry.refKey; rw [hk]
    have ks : e.key.isStr z = decide (p.1 = z) := by
      rw [hk]
      show (p.1 == z) = _
      by_cases c : p.1 = z
      · rw [c]; simp
      · rw [decide_eq_false c]; simpa using c
    refine ⟨by rw [List.any_cons, rk, i1]; rfl, ?_⟩
    rw [List.find?_cons, List.find?_cons, ks]
    by_cases c : p.1 = z
    · rw [decide_eq_true c]
      exact ⟨e, t, rfl, hv, ht⟩
    · rw [decide_eq_false c]
      exact i2
theorem forms_fm {K : PySem.W.Frag} {w : World} {mg : Str → Option Value} {d : Addr} {es : Array DictEntry} {n : Nat} (g : mg "_FORMS" = some (.ref d)) (l : K.lookup d = some ⟨.type "dict", none, .dict es n, #[]⟩) (kl : PySem.W.KeysLit w.params es.toList) (lo : (d == sysModules) = false) (v : formsB K es.toList formsL = true) : Fm K w mg d es n := by
  refine ⟨g, ⟨l, kl, lo⟩, fun z hz => ?_, fun z f hz => ?_⟩
  · obtain ⟨h1, h2⟩ := forms_find z v
    unfold formOf at hz
    cases q : formsL.find? fun p => decide (p.1 = z) with
    | none =>
      rw [q] at h2
      unfold PySem.W.nsIn
      rw [l]
      show (match es.toList.find? (·.key.isStr z) with | some e => some (some e.val) | none => if es.toList.any (·.refKey) then none else some none) = _
      rw [show es.toList.find? (·.key.isStr z) = none from h2]
      show (if es.toList.any (·.refKey) then none else some none) = _
      rw [h1]
      rfl
    | some p => rw [q] at hz; cases hz
  · obtain ⟨h1, h2⟩ := forms_find z v
    unfold formOf at hz
    cases q : formsL.find? fun p => decide (p.1 = z) with
    | none => rw [q] at hz; cases hz
    | some p =>
      rw [q] at hz h2
      cases Option.some.inj hz
      obtain ⟨e, t, e1, e2, e3⟩ := h2
      refine ⟨t, ?_, tup_ok e3 ?_⟩
      · unfold PySem.W.nsIn
        rw [l]
        show (match es.toList.find? (·.key.isStr z) with | some e => some (some e.val) | none => if es.toList.any (·.refKey) then none else some none) = _
        rw [e1, ← e2]
      · have : formsL.all (fun p => decide (p.2.length ≤ 1000)) = true := by decide +kernel
        exact of_decide_eq_true (List.all_eq_true.mp this p (List.mem_of_find?_eq_some q))

theorem all_mk {P : Program} {w : World} {K : PySem.W.Frag} {h : Heap} {mg : Str → Option Value} {fa : Addr} (X : K.In h) (G : h.Ns mainGlobals mg) (hfa : mg "law" = some (.ref fa))
    {CL : Addr} {CB : Addr} {CT : Addr} {CU : Addr} {CS : Addr} {CR : Addr} {CPg : Addr} {f_copy : Addr} {od_copy an_copy : Option Addr} {sl_copy : Array (Option Value)} {oc_copy kV_copy dc_copy pm_copy cd_copy ct_copy : Value} {dT_copy : Addr} {f_shown : Addr} {od_shown an_shown : Option Addr} {sl_shown : Array (Option Value)} {oc_shown kV_shown dc_shown pm_shown cd_shown ct_shown : Value} {f_isname : Addr} {od_isname an_isname : Option Addr} {sl_isname : Array (Option Value)} {oc_isname kV_isname dc_isname pm_isname cd_isname ct_isname : Value} {f_ishow : Addr} {od_ishow an_ishow : Option Addr} {sl_ishow : Array (Option Value)} {oc_ishow kV_ishow dc_ishow pm_ishow cd_ishow ct_ishow : Value} {f_isfig : Addr} {od_isfig an_isfig : Option Addr} {sl_isfig : Array (Option Value)} {oc_isfig kV_isfig dc_isfig pm_isfig cd_isfig ct_isfig : Value} {f_ofsort : Addr} {od_ofsort an_ofsort : Option Addr} {sl_ofsort : Array (Option Value)} {oc_ofsort kV_ofsort dc_ofsort pm_ofsort cd_ofsort ct_ofsort : Value} {f_hasform : Addr} {od_hasform an_hasform : Option Addr} {sl_hasform : Array (Option Value)} {oc_hasform kV_hasform dc_hasform pm_hasform cd_hasform ct_hasform : Value} {f_keeps : Addr} {od_keeps an_keeps : Option Addr} {sl_keeps : Array (Option Value)} {oc_keeps kV_keeps dc_keeps pm_keeps cd_keeps ct_keeps : Value} {f_rows : Addr} {od_rows an_rows : Option Addr} {sl_rows : Array (Option Value)} {oc_rows kV_rows dc_rows pm_rows cd_rows ct_rows : Value} {f_cnames : Addr} {od_cnames an_cnames : Option Addr} {sl_cnames : Array (Option Value)} {oc_cnames kV_cnames dc_cnames pm_cnames cd_cnames ct_cnames : Value} {f_climits : Addr} {od_climits an_climits : Option Addr} {sl_climits : Array (Option Value)} {oc_climits kV_climits dc_climits pm_climits cd_climits ct_climits : Value} {f_box : Addr} {od_box an_box : Option Addr} {sl_box : Array (Option Value)} {oc_box kV_box dc_box pm_box cd_box ct_box : Value} {f_take : Addr} {od_take an_take : Option Addr} {sl_take : Array (Option Value)} {oc_take kV_take dc_take pm_take cd_take ct_take : Value} {f_mixed : Addr} {od_mixed an_mixed : Option Addr} {sl_mixed : Array (Option Value)} {oc_mixed kV_mixed dc_mixed pm_mixed cd_mixed ct_mixed : Value} {f_pick : Addr} {od_pick an_pick : Option Addr} {sl_pick : Array (Option Value)} {oc_pick kV_pick dc_pick pm_pick cd_pick ct_pick : Value} {f_names : Addr} {od_names an_names : Option Addr} {sl_names : Array (Option Value)} {oc_names kV_names dc_names pm_names cd_names ct_names : Value} {f_world : Addr} {od_world an_world : Option Addr} {sl_world : Array (Option Value)} {oc_world kV_world dc_world pm_world cd_world ct_world : Value} {f_lrows : Addr} {od_lrows an_lrows : Option Addr} {sl_lrows : Array (Option Value)} {oc_lrows kV_lrows dc_lrows pm_lrows cd_lrows ct_lrows : Value} {f_lrow : Addr} {od_lrow an_lrow : Option Addr} {sl_lrow : Array (Option Value)} {oc_lrow kV_lrow dc_lrow pm_lrow cd_lrow ct_lrow : Value} {f_blk : Addr} {od_blk an_blk : Option Addr} {sl_blk : Array (Option Value)} {oc_blk kV_blk dc_blk pm_blk cd_blk ct_blk : Value} {f_prog : Addr} {od_prog an_prog : Option Addr} {sl_prog : Array (Option Value)} {oc_prog kV_prog dc_prog pm_prog cd_prog ct_prog : Value} {f_some : Addr} {od_some an_some : Option Addr} {sl_some : Array (Option Value)} {oc_some kV_some dc_some pm_some cd_some ct_some : Value} {f_long : Addr} {od_long an_long : Option Addr} {sl_long : Array (Option Value)} {oc_long kV_long dc_long pm_long cd_long ct_long : Value} {f_told : Addr} {od_told an_told : Option Addr} {sl_told : Array (Option Value)} {oc_told kV_told dc_told pm_told cd_told ct_told : Value} {f_law : Addr} {od_law an_law : Option Addr} {sl_law : Array (Option Value)} {oc_law kV_law dc_law pm_law cd_law ct_law : Value} {f_Sinit : Addr} {od_Sinit an_Sinit : Option Addr} {sl_Sinit : Array (Option Value)} {oc_Sinit kV_Sinit dc_Sinit pm_Sinit cd_Sinit ct_Sinit : Value} {f_Rinit : Addr} {od_Rinit an_Rinit : Option Addr} {sl_Rinit : Array (Option Value)} {oc_Rinit kV_Rinit dc_Rinit pm_Rinit cd_Rinit ct_Rinit : Value} {f_Rtake : Addr} {od_Rtake an_Rtake : Option Addr} {sl_Rtake : Array (Option Value)} {oc_Rtake kV_Rtake dc_Rtake pm_Rtake cd_Rtake ct_Rtake : Value} {f_Rdef : Addr} {od_Rdef an_Rdef : Option Addr} {sl_Rdef : Array (Option Value)} {oc_Rdef kV_Rdef dc_Rdef pm_Rdef cd_Rdef ct_Rdef : Value} {f_Radd : Addr} {od_Radd an_Radd : Option Addr} {sl_Radd : Array (Option Value)} {oc_Radd kV_Radd dc_Radd pm_Radd cd_Radd ct_Radd : Value} {f_Rmay : Addr} {od_Rmay an_Rmay : Option Addr} {sl_Rmay : Array (Option Value)} {oc_Rmay kV_Rmay dc_Rmay pm_Rmay cd_Rmay ct_Rmay : Value} {f_Rrem : Addr} {od_Rrem an_Rrem : Option Addr} {sl_Rrem : Array (Option Value)} {oc_Rrem kV_Rrem dc_Rrem pm_Rrem cd_Rrem ct_Rrem : Value} {f_Rmark : Addr} {od_Rmark an_Rmark : Option Addr} {sl_Rmark : Array (Option Value)} {oc_Rmark kV_Rmark dc_Rmark pm_Rmark cd_Rmark ct_Rmark : Value} {f_Rend : Addr} {od_Rend an_Rend : Option Addr} {sl_Rend : Array (Option Value)} {oc_Rend kV_Rend dc_Rend pm_Rend cd_Rend ct_Rend : Value} {f_Pinit : Addr} {od_Pinit an_Pinit : Option Addr} {sl_Pinit : Array (Option Value)} {oc_Pinit kV_Pinit dc_Pinit pm_Pinit cd_Pinit ct_Pinit : Value} {f_Pstr : Addr} {od_Pstr an_Pstr : Option Addr} {sl_Pstr : Array (Option Value)} {oc_Pstr kV_Pstr dc_Pstr pm_Pstr cd_Pstr ct_Pstr : Value} {f_Peq : Addr} {od_Peq an_Peq : Option Addr} {sl_Peq : Array (Option Value)} {oc_Peq kV_Peq dc_Peq pm_Peq cd_Peq ct_Peq : Value} {f_Plen : Addr} {od_Plen an_Plen : Option Addr} {sl_Plen : Array (Option Value)} {oc_Plen kV_Plen dc_Plen pm_Plen cd_Plen ct_Plen : Value} {p_read : Addr} {rest_read : List Value} {f_Pread : Addr} {od_Pread an_Pread : Option Addr} {sl_Pread : Array (Option Value)} {oc_Pread kV_Pread dc_Pread pm_Pread cd_Pread ct_Pread : Value} {oT : Value} {dTd : Option Addr} {nT : Nat} {tkT : Tok} {slT : Array (Option Value)} {nm_B q_B : Str} {N_B : Addr} {bs_B : List Value} {sn_B : List Str} {sub_B : List Value} {ab_B : Bool} {col_B : Option Bool} {dd_B : Option Addr} {x0_B x1_B x2_B x3_B x5_B : Option Value} {f_eB cda_eB cc_eB : Addr} {od_eB an_eB cdd_eB cld_eB : Option Addr} {sl_eB ccs_eB csl_eB : Array (Option Value)} {oc_eB kV_eB dc_eB pm_eB ct_eB ccl_eB cl_eB : Value} {xs_eB : Array Value} {file_eB : Str} {tf_eB : Tok} {nm_T q_T : Str} {N_T : Addr} {bs_T : List Value} {sn_T : List Str} {sub_T : List Value} {ab_T : Bool} {col_T : Option Bool} {dd_T : Option Addr} {x0_T x1_T x2_T x3_T x5_T : Option Value} {f_eT cda_eT cc_eT : Addr} {od_eT an_eT cdd_eT cld_eT : Option Addr} {sl_eT ccs_eT csl_eT : Array (Option Value)} {oc_eT kV_eT dc_eT pm_eT ct_eT ccl_eT cl_eT : Value} {xs_eT : Array Value} {file_eT : Str} {tf_eT : Tok} {nm_U q_U : Str} {N_U : Addr} {bs_U : List Value} {sn_U : List Str} {sub_U : List Value} {ab_U : Bool} {col_U : Option Bool} {dd_U : Option Addr} {x0_U x1_U x2_U x3_U x5_U : Option Value} {f_eU cda_eU cc_eU : Addr} {od_eU an_eU cdd_eU cld_eU : Option Addr} {sl_eU ccs_eU csl_eU : Array (Option Value)} {oc_eU kV_eU dc_eU pm_eU ct_eU ccl_eU cl_eU : Value} {xs_eU : Array Value} {file_eU : Str} {tf_eU : Tok} {tk_long : Tok} {tk_shownN : Tok} {tk_great : Tok} {tk_mrows : Tok} {tk_mjobs : Tok} {tk_mwalks : Tok} {tk_mdeep : Tok} {a_W : Addr} {od_W : Option Addr} {its_W : Array Value} {n_W : Nat} {sl_W : Array (Option Value)} {a_H : Addr} {od_H : Option Addr} {its_H : Array Value} {n_H : Nat} {sl_H : Array (Option Value)} {a_Bl : Addr} {od_Bl : Option Addr} {its_Bl : Array Value} {n_Bl : Nat} {sl_Bl : Array (Option Value)} {a_F : Addr} {es_F : Array DictEntry} {n_F : Nat}
    (g_L : PySem.W.nsIn K mainGlobals "LateError" = some (some (.ref CL)))
    (g_B : PySem.W.nsIn K mainGlobals "BadRow" = some (some (.ref CB)))
    (g_T : PySem.W.nsIn K mainGlobals "TooMany" = some (some (.ref CT)))
    (g_U : PySem.W.nsIn K mainGlobals "Unknown" = some (some (.ref CU)))
    (g_S : PySem.W.nsIn K mainGlobals "Step" = some (some (.ref CS)))
    (g_R : PySem.W.nsIn K mainGlobals "Reader" = some (some (.ref CR)))
    (g_Pg : PySem.W.nsIn K mainGlobals "Program" = some (some (.ref CPg)))
    (n_isinstance : PySem.W.nsIn K mainGlobals "isinstance" = some none)
    (n_len : PySem.W.nsIn K mainGlobals "len" = some none)
    (n_str : PySem.W.nsIn K mainGlobals "str" = some none)
    (n_int : PySem.W.nsIn K mainGlobals "int" = some none)
    (n_all : PySem.W.nsIn K mainGlobals "all" = some none)
    (n_any : PySem.W.nsIn K mainGlobals "any" = some none)
    (n_zip : PySem.W.nsIn K mainGlobals "zip" = some none)
    (n_enumerate : PySem.W.nsIn K mainGlobals "enumerate" = some none)
    (n_list : PySem.W.nsIn K mainGlobals "list" = some none)
    (n_tuple : PySem.W.nsIn K mainGlobals "tuple" = some none)
    (n_sorted : PySem.W.nsIn K mainGlobals "sorted" = some none)
    (n_set : PySem.W.nsIn K mainGlobals "set" = some none)
    (n_max : PySem.W.nsIn K mainGlobals "max" = some none)
    (n_min : PySem.W.nsIn K mainGlobals "min" = some none)
    (n_range : PySem.W.nsIn K mainGlobals "range" = some none)
    (n_abs : PySem.W.nsIn K mainGlobals "abs" = some none)
    (n_repr : PySem.W.nsIn K mainGlobals "repr" = some none)
    (n_dict : PySem.W.nsIn K mainGlobals "dict" = some none)
    (n_super : PySem.W.nsIn K mainGlobals "super" = some none)
    (pg_S : PySem.W.plainGet K CS Str.empty = true)
    (hd_S : PySem.W.hasDictIn K CS = true)
    (po_S : PySem.W.plainOver K CS = true)
    (sa_S : PySem.W.findIn K (.ref CS) "__setattr__" = some (some (.builtin "object.__setattr__")))
    (mk_S : PySem.W.makesIn K CS = true)
    (kc_S : PySem.W.keepIn K (.ref CS) = true)
    (at_S_word : PySem.W.findIn K (.ref CS) "word" = some none)
    (at_S_name : PySem.W.findIn K (.ref CS) "name" = some none)
    (at_S_how : PySem.W.findIn K (.ref CS) "how" = some none)
    (at_S_many : PySem.W.findIn K (.ref CS) "many" = some none)
    (at_S_body : PySem.W.findIn K (.ref CS) "body" = some none)
    (at_S_mark : PySem.W.findIn K (.ref CS) "mark" = some none)
    (at_S_behind : PySem.W.findIn K (.ref CS) "behind" = some none)
    (pg_R : PySem.W.plainGet K CR Str.empty = true)
    (hd_R : PySem.W.hasDictIn K CR = true)
    (po_R : PySem.W.plainOver K CR = true)
    (sa_R : PySem.W.findIn K (.ref CR) "__setattr__" = some (some (.builtin "object.__setattr__")))
    (mk_R : PySem.W.makesIn K CR = true)
    (kc_R : PySem.W.keepIn K (.ref CR) = true)
    (at_R_jobs : PySem.W.findIn K (.ref CR) "jobs" = some none)
    (at_R_walks : PySem.W.findIn K (.ref CR) "walks" = some none)
    (at_R_gates : PySem.W.findIn K (.ref CR) "gates" = some none)
    (at_R_begun : PySem.W.findIn K (.ref CR) "begun" = some none)
    (at_R_deepest : PySem.W.findIn K (.ref CR) "deepest" = some none)
    (at_R_around : PySem.W.findIn K (.ref CR) "around" = some none)
    (pg_Pg : PySem.W.plainGet K CPg Str.empty = true)
    (hd_Pg : PySem.W.hasDictIn K CPg = true)
    (po_Pg : PySem.W.plainOver K CPg = true)
    (sa_Pg : PySem.W.findIn K (.ref CPg) "__setattr__" = some (some (.builtin "object.__setattr__")))
    (mk_Pg : PySem.W.makesIn K CPg = true)
    (kc_Pg : PySem.W.keepIn K (.ref CPg) = true)
    (at_Pg_rows : PySem.W.findIn K (.ref CPg) "rows" = some none)
    (at_Pg_job_steps : PySem.W.findIn K (.ref CPg) "job_steps" = some none)
    (at_Pg_walk_steps : PySem.W.findIn K (.ref CPg) "walk_steps" = some none)
    (at_Pg_jobs : PySem.W.findIn K (.ref CPg) "jobs" = some none)
    (at_Pg_walks : PySem.W.findIn K (.ref CPg) "walks" = some none)
    (at_Pg_gates : PySem.W.findIn K (.ref CPg) "gates" = some none)
    (a_copy : PySem.W.nsIn K mainGlobals "copy_of" = some (some (.ref f_copy)))
    (l_copy : K.lookup f_copy = some ⟨oc_copy, od_copy, .func (PySem.W.fnOf "copy_of" "copy_of" (defArgs t_copy_of) (defBody t_copy_of) (defScope t_copy_of) (.ref dT_copy) kV_copy dc_copy pm_copy an_copy cd_copy ct_copy), sl_copy⟩)
    (c_copy : PySem.W.codeIn K cd_copy "copy_of" = true)
    (k_copy : PySem.W.keepIn K (.ref f_copy) = true)
    (a_shown : PySem.W.nsIn K mainGlobals "_shown" = some (some (.ref f_shown)))
    (l_shown : K.lookup f_shown = some ⟨oc_shown, od_shown, .func (PySem.W.fnOf "_shown" "_shown" (defArgs t_shown) (defBody t_shown) (defScope t_shown) .none kV_shown dc_shown pm_shown an_shown cd_shown ct_shown), sl_shown⟩)
    (c_shown : PySem.W.codeIn K cd_shown "_shown" = true)
    (k_shown : PySem.W.keepIn K (.ref f_shown) = true)
    (a_isname : PySem.W.nsIn K mainGlobals "is_name" = some (some (.ref f_isname)))
    (l_isname : K.lookup f_isname = some ⟨oc_isname, od_isname, .func (PySem.W.fnOf "is_name" "is_name" (defArgs t_is_name) (defBody t_is_name) (defScope t_is_name) .none kV_isname dc_isname pm_isname an_isname cd_isname ct_isname), sl_isname⟩)
    (c_isname : PySem.W.codeIn K cd_isname "is_name" = true)
    (k_isname : PySem.W.keepIn K (.ref f_isname) = true)
    (a_ishow : PySem.W.nsIn K mainGlobals "is_how" = some (some (.ref f_ishow)))
    (l_ishow : K.lookup f_ishow = some ⟨oc_ishow, od_ishow, .func (PySem.W.fnOf "is_how" "is_how" (defArgs t_is_how) (defBody t_is_how) (defScope t_is_how) .none kV_ishow dc_ishow pm_ishow an_ishow cd_ishow ct_ishow), sl_ishow⟩)
    (c_ishow : PySem.W.codeIn K cd_ishow "is_how" = true)
    (k_ishow : PySem.W.keepIn K (.ref f_ishow) = true)
    (a_isfig : PySem.W.nsIn K mainGlobals "_is_figure" = some (some (.ref f_isfig)))
    (l_isfig : K.lookup f_isfig = some ⟨oc_isfig, od_isfig, .func (PySem.W.fnOf "_is_figure" "_is_figure" (defArgs t_is_figure) (defBody t_is_figure) (defScope t_is_figure) .none kV_isfig dc_isfig pm_isfig an_isfig cd_isfig ct_isfig), sl_isfig⟩)
    (c_isfig : PySem.W.codeIn K cd_isfig "_is_figure" = true)
    (k_isfig : PySem.W.keepIn K (.ref f_isfig) = true)
    (a_ofsort : PySem.W.nsIn K mainGlobals "_is_of_sort" = some (some (.ref f_ofsort)))
    (l_ofsort : K.lookup f_ofsort = some ⟨oc_ofsort, od_ofsort, .func (PySem.W.fnOf "_is_of_sort" "_is_of_sort" (defArgs t_is_of_sort) (defBody t_is_of_sort) (defScope t_is_of_sort) .none kV_ofsort dc_ofsort pm_ofsort an_ofsort cd_ofsort ct_ofsort), sl_ofsort⟩)
    (c_ofsort : PySem.W.codeIn K cd_ofsort "_is_of_sort" = true)
    (k_ofsort : PySem.W.keepIn K (.ref f_ofsort) = true)
    (a_hasform : PySem.W.nsIn K mainGlobals "has_form" = some (some (.ref f_hasform)))
    (l_hasform : K.lookup f_hasform = some ⟨oc_hasform, od_hasform, .func (PySem.W.fnOf "has_form" "has_form" (defArgs t_has_form) (defBody t_has_form) (defScope t_has_form) .none kV_hasform dc_hasform pm_hasform an_hasform cd_hasform ct_hasform), sl_hasform⟩)
    (c_hasform : PySem.W.codeIn K cd_hasform "has_form" = true)
    (k_hasform : PySem.W.keepIn K (.ref f_hasform) = true)
    (a_keeps : PySem.W.nsIn K mainGlobals "_keeps" = some (some (.ref f_keeps)))
    (l_keeps : K.lookup f_keeps = some ⟨oc_keeps, od_keeps, .func (PySem.W.fnOf "_keeps" "_keeps" (defArgs t_keeps) (defBody t_keeps) (defScope t_keeps) .none kV_keeps dc_keeps pm_keeps an_keeps cd_keeps ct_keeps), sl_keeps⟩)
    (c_keeps : PySem.W.codeIn K cd_keeps "_keeps" = true)
    (k_keeps : PySem.W.keepIn K (.ref f_keeps) = true)
    (a_rows : PySem.W.nsIn K mainGlobals "read_rows" = some (some (.ref f_rows)))
    (l_rows : K.lookup f_rows = some ⟨oc_rows, od_rows, .func (PySem.W.fnOf "read_rows" "read_rows" (defArgs t_read_rows) (defBody t_read_rows) (defScope t_read_rows) .none kV_rows dc_rows pm_rows an_rows cd_rows ct_rows), sl_rows⟩)
    (c_rows : PySem.W.codeIn K cd_rows "read_rows" = true)
    (k_rows : PySem.W.keepIn K (.ref f_rows) = true)
    (a_cnames : PySem.W.nsIn K mainGlobals "_check_names" = some (some (.ref f_cnames)))
    (l_cnames : K.lookup f_cnames = some ⟨oc_cnames, od_cnames, .func (PySem.W.fnOf "_check_names" "_check_names" (defArgs t_check_names) (defBody t_check_names) (defScope t_check_names) .none kV_cnames dc_cnames pm_cnames an_cnames cd_cnames ct_cnames), sl_cnames⟩)
    (c_cnames : PySem.W.codeIn K cd_cnames "_check_names" = true)
    (k_cnames : PySem.W.keepIn K (.ref f_cnames) = true)
    (a_climits : PySem.W.nsIn K mainGlobals "_check_limits" = some (some (.ref f_climits)))
    (l_climits : K.lookup f_climits = some ⟨oc_climits, od_climits, .func (PySem.W.fnOf "_check_limits" "_check_limits" (defArgs t_check_limits) (defBody t_check_limits) (defScope t_check_limits) .none kV_climits dc_climits pm_climits an_climits cd_climits ct_climits), sl_climits⟩)
    (c_climits : PySem.W.codeIn K cd_climits "_check_limits" = true)
    (k_climits : PySem.W.keepIn K (.ref f_climits) = true)
    (a_box : PySem.W.nsIn K mainGlobals "_law_box" = some (some (.ref f_box)))
    (l_box : K.lookup f_box = some ⟨oc_box, od_box, .func (PySem.W.fnOf "_law_box" "_law_box" (defArgs t_law_box) (defBody t_law_box) (defScope t_law_box) .none kV_box dc_box pm_box an_box cd_box ct_box), sl_box⟩)
    (c_box : PySem.W.codeIn K cd_box "_law_box" = true)
    (k_box : PySem.W.keepIn K (.ref f_box) = true)
    (a_take : PySem.W.nsIn K mainGlobals "_law_take" = some (some (.ref f_take)))
    (l_take : K.lookup f_take = some ⟨oc_take, od_take, .func (PySem.W.fnOf "_law_take" "_law_take" (defArgs t_law_take) (defBody t_law_take) (defScope t_law_take) .none kV_take dc_take pm_take an_take cd_take ct_take), sl_take⟩)
    (c_take : PySem.W.codeIn K cd_take "_law_take" = true)
    (k_take : PySem.W.keepIn K (.ref f_take) = true)
    (a_mixed : PySem.W.nsIn K mainGlobals "_law_mixed" = some (some (.ref f_mixed)))
    (l_mixed : K.lookup f_mixed = some ⟨oc_mixed, od_mixed, .func (PySem.W.fnOf "_law_mixed" "_law_mixed" (defArgs t_law_mixed) (defBody t_law_mixed) (defScope t_law_mixed) .none kV_mixed dc_mixed pm_mixed an_mixed cd_mixed ct_mixed), sl_mixed⟩)
    (c_mixed : PySem.W.codeIn K cd_mixed "_law_mixed" = true)
    (k_mixed : PySem.W.keepIn K (.ref f_mixed) = true)
    (a_pick : PySem.W.nsIn K mainGlobals "_law_pick" = some (some (.ref f_pick)))
    (l_pick : K.lookup f_pick = some ⟨oc_pick, od_pick, .func (PySem.W.fnOf "_law_pick" "_law_pick" (defArgs t_law_pick) (defBody t_law_pick) (defScope t_law_pick) .none kV_pick dc_pick pm_pick an_pick cd_pick ct_pick), sl_pick⟩)
    (c_pick : PySem.W.codeIn K cd_pick "_law_pick" = true)
    (k_pick : PySem.W.keepIn K (.ref f_pick) = true)
    (a_names : PySem.W.nsIn K mainGlobals "_law_names" = some (some (.ref f_names)))
    (l_names : K.lookup f_names = some ⟨oc_names, od_names, .func (PySem.W.fnOf "_law_names" "_law_names" (defArgs t_law_names) (defBody t_law_names) (defScope t_law_names) .none kV_names dc_names pm_names an_names cd_names ct_names), sl_names⟩)
    (c_names : PySem.W.codeIn K cd_names "_law_names" = true)
    (k_names : PySem.W.keepIn K (.ref f_names) = true)
    (a_world : PySem.W.nsIn K mainGlobals "_law_world" = some (some (.ref f_world)))
    (l_world : K.lookup f_world = some ⟨oc_world, od_world, .func (PySem.W.fnOf "_law_world" "_law_world" (defArgs t_law_world) (defBody t_law_world) (defScope t_law_world) .none kV_world dc_world pm_world an_world cd_world ct_world), sl_world⟩)
    (c_world : PySem.W.codeIn K cd_world "_law_world" = true)
    (k_world : PySem.W.keepIn K (.ref f_world) = true)
    (a_lrows : PySem.W.nsIn K mainGlobals "_law_rows" = some (some (.ref f_lrows)))
    (l_lrows : K.lookup f_lrows = some ⟨oc_lrows, od_lrows, .func (PySem.W.fnOf "_law_rows" "_law_rows" (defArgs t_law_rows) (defBody t_law_rows) (defScope t_law_rows) .none kV_lrows dc_lrows pm_lrows an_lrows cd_lrows ct_lrows), sl_lrows⟩)
    (c_lrows : PySem.W.codeIn K cd_lrows "_law_rows" = true)
    (k_lrows : PySem.W.keepIn K (.ref f_lrows) = true)
    (a_lrow : PySem.W.nsIn K mainGlobals "_law_row" = some (some (.ref f_lrow)))
    (l_lrow : K.lookup f_lrow = some ⟨oc_lrow, od_lrow, .func (PySem.W.fnOf "_law_row" "_law_row" (defArgs t_law_row) (defBody t_law_row) (defScope t_law_row) .none kV_lrow dc_lrow pm_lrow an_lrow cd_lrow ct_lrow), sl_lrow⟩)
    (c_lrow : PySem.W.codeIn K cd_lrow "_law_row" = true)
    (k_lrow : PySem.W.keepIn K (.ref f_lrow) = true)
    (a_blk : PySem.W.nsIn K mainGlobals "_law_block" = some (some (.ref f_blk)))
    (l_blk : K.lookup f_blk = some ⟨oc_blk, od_blk, .func (PySem.W.fnOf "_law_block" "_law_block" (defArgs t_law_block) (defBody t_law_block) (defScope t_law_block) .none kV_blk dc_blk pm_blk an_blk cd_blk ct_blk), sl_blk⟩)
    (c_blk : PySem.W.codeIn K cd_blk "_law_block" = true)
    (k_blk : PySem.W.keepIn K (.ref f_blk) = true)
    (a_prog : PySem.W.nsIn K mainGlobals "_law_program" = some (some (.ref f_prog)))
    (l_prog : K.lookup f_prog = some ⟨oc_prog, od_prog, .func (PySem.W.fnOf "_law_program" "_law_program" (defArgs t_law_program) (defBody t_law_program) (defScope t_law_program) .none kV_prog dc_prog pm_prog an_prog cd_prog ct_prog), sl_prog⟩)
    (c_prog : PySem.W.codeIn K cd_prog "_law_program" = true)
    (k_prog : PySem.W.keepIn K (.ref f_prog) = true)
    (a_some : PySem.W.nsIn K mainGlobals "_law_some_program" = some (some (.ref f_some)))
    (l_some : K.lookup f_some = some ⟨oc_some, od_some, .func (PySem.W.fnOf "_law_some_program" "_law_some_program" (defArgs t_law_some_program) (defBody t_law_some_program) (defScope t_law_some_program) .none kV_some dc_some pm_some an_some cd_some ct_some), sl_some⟩)
    (c_some : PySem.W.codeIn K cd_some "_law_some_program" = true)
    (k_some : PySem.W.keepIn K (.ref f_some) = true)
    (a_long : PySem.W.nsIn K mainGlobals "_law_long" = some (some (.ref f_long)))
    (l_long : K.lookup f_long = some ⟨oc_long, od_long, .func (PySem.W.fnOf "_law_long" "_law_long" (defArgs t_law_long) (defBody t_law_long) (defScope t_law_long) .none kV_long dc_long pm_long an_long cd_long ct_long), sl_long⟩)
    (c_long : PySem.W.codeIn K cd_long "_law_long" = true)
    (k_long : PySem.W.keepIn K (.ref f_long) = true)
    (a_told : PySem.W.nsIn K mainGlobals "_law_told" = some (some (.ref f_told)))
    (l_told : K.lookup f_told = some ⟨oc_told, od_told, .func (PySem.W.fnOf "_law_told" "_law_told" (defArgs t_law_told) (defBody t_law_told) (defScope t_law_told) .none kV_told dc_told pm_told an_told cd_told ct_told), sl_told⟩)
    (c_told : PySem.W.codeIn K cd_told "_law_told" = true)
    (k_told : PySem.W.keepIn K (.ref f_told) = true)
    (a_law : PySem.W.nsIn K mainGlobals "law" = some (some (.ref f_law)))
    (l_law : K.lookup f_law = some ⟨oc_law, od_law, .func (PySem.W.fnOf "law" "law" (defArgs t_law) (defBody t_law) (defScope t_law) .none kV_law dc_law pm_law an_law cd_law ct_law), sl_law⟩)
    (c_law : PySem.W.codeIn K cd_law "law" = true)
    (k_law : PySem.W.keepIn K (.ref f_law) = true)
    (m_Sinit : PySem.W.findIn K (.ref CS) "__init__" = some (some (.ref f_Sinit)))
    (i_Sinit : PySem.W.isFn K (.ref f_Sinit) = true)
    (l_Sinit : K.lookup f_Sinit = some ⟨oc_Sinit, od_Sinit, .func (PySem.W.fnOf "__init__" "Step.__init__" (defArgs t_Step_init) (defBody t_Step_init) (defScope t_Step_init) .none kV_Sinit dc_Sinit pm_Sinit an_Sinit cd_Sinit ct_Sinit), sl_Sinit⟩)
    (c_Sinit : PySem.W.codeIn K cd_Sinit "Step.__init__" = true)
    (k_Sinit : PySem.W.keepIn K (.ref f_Sinit) = true)
    (m_Rinit : PySem.W.findIn K (.ref CR) "__init__" = some (some (.ref f_Rinit)))
    (i_Rinit : PySem.W.isFn K (.ref f_Rinit) = true)
    (l_Rinit : K.lookup f_Rinit = some ⟨oc_Rinit, od_Rinit, .func (PySem.W.fnOf "__init__" "Reader.__init__" (defArgs t_Reader_init) (defBody t_Reader_init) (defScope t_Reader_init) .none kV_Rinit dc_Rinit pm_Rinit an_Rinit cd_Rinit ct_Rinit), sl_Rinit⟩)
    (c_Rinit : PySem.W.codeIn K cd_Rinit "Reader.__init__" = true)
    (k_Rinit : PySem.W.keepIn K (.ref f_Rinit) = true)
    (m_Rtake : PySem.W.findIn K (.ref CR) "take" = some (some (.ref f_Rtake)))
    (i_Rtake : PySem.W.isFn K (.ref f_Rtake) = true)
    (l_Rtake : K.lookup f_Rtake = some ⟨oc_Rtake, od_Rtake, .func (PySem.W.fnOf "take" "Reader.take" (defArgs t_Reader_take) (defBody t_Reader_take) (defScope t_Reader_take) .none kV_Rtake dc_Rtake pm_Rtake an_Rtake cd_Rtake ct_Rtake), sl_Rtake⟩)
    (c_Rtake : PySem.W.codeIn K cd_Rtake "Reader.take" = true)
    (k_Rtake : PySem.W.keepIn K (.ref f_Rtake) = true)
    (m_Rdef : PySem.W.findIn K (.ref CR) "_define" = some (some (.ref f_Rdef)))
    (i_Rdef : PySem.W.isFn K (.ref f_Rdef) = true)
    (l_Rdef : K.lookup f_Rdef = some ⟨oc_Rdef, od_Rdef, .func (PySem.W.fnOf "_define" "Reader._define" (defArgs t_Reader_define) (defBody t_Reader_define) (defScope t_Reader_define) .none kV_Rdef dc_Rdef pm_Rdef an_Rdef cd_Rdef ct_Rdef), sl_Rdef⟩)
    (c_Rdef : PySem.W.codeIn K cd_Rdef "Reader._define" = true)
    (k_Rdef : PySem.W.keepIn K (.ref f_Rdef) = true)
    (m_Radd : PySem.W.findIn K (.ref CR) "_add" = some (some (.ref f_Radd)))
    (i_Radd : PySem.W.isFn K (.ref f_Radd) = true)
    (l_Radd : K.lookup f_Radd = some ⟨oc_Radd, od_Radd, .func (PySem.W.fnOf "_add" "Reader._add" (defArgs t_Reader_add) (defBody t_Reader_add) (defScope t_Reader_add) .none kV_Radd dc_Radd pm_Radd an_Radd cd_Radd ct_Radd), sl_Radd⟩)
    (c_Radd : PySem.W.codeIn K cd_Radd "Reader._add" = true)
    (k_Radd : PySem.W.keepIn K (.ref f_Radd) = true)
    (m_Rmay : PySem.W.findIn K (.ref CR) "_may_stand" = some (some (.ref f_Rmay)))
    (i_Rmay : PySem.W.isFn K (.ref f_Rmay) = true)
    (l_Rmay : K.lookup f_Rmay = some ⟨oc_Rmay, od_Rmay, .func (PySem.W.fnOf "_may_stand" "Reader._may_stand" (defArgs t_Reader_may_stand) (defBody t_Reader_may_stand) (defScope t_Reader_may_stand) .none kV_Rmay dc_Rmay pm_Rmay an_Rmay cd_Rmay ct_Rmay), sl_Rmay⟩)
    (c_Rmay : PySem.W.codeIn K cd_Rmay "Reader._may_stand" = true)
    (k_Rmay : PySem.W.keepIn K (.ref f_Rmay) = true)
    (m_Rrem : PySem.W.findIn K (.ref CR) "_remember" = some (some (.ref f_Rrem)))
    (i_Rrem : PySem.W.isFn K (.ref f_Rrem) = true)
    (l_Rrem : K.lookup f_Rrem = some ⟨oc_Rrem, od_Rrem, .func (PySem.W.fnOf "_remember" "Reader._remember" (defArgs t_Reader_remember) (defBody t_Reader_remember) (defScope t_Reader_remember) .none kV_Rrem dc_Rrem pm_Rrem an_Rrem cd_Rrem ct_Rrem), sl_Rrem⟩)
    (c_Rrem : PySem.W.codeIn K cd_Rrem "Reader._remember" = true)
    (k_Rrem : PySem.W.keepIn K (.ref f_Rrem) = true)
    (m_Rmark : PySem.W.findIn K (.ref CR) "_mark" = some (some (.ref f_Rmark)))
    (i_Rmark : PySem.W.isFn K (.ref f_Rmark) = true)
    (l_Rmark : K.lookup f_Rmark = some ⟨oc_Rmark, od_Rmark, .func (PySem.W.fnOf "_mark" "Reader._mark" (defArgs t_Reader_mark) (defBody t_Reader_mark) (defScope t_Reader_mark) .none kV_Rmark dc_Rmark pm_Rmark an_Rmark cd_Rmark ct_Rmark), sl_Rmark⟩)
    (c_Rmark : PySem.W.codeIn K cd_Rmark "Reader._mark" = true)
    (k_Rmark : PySem.W.keepIn K (.ref f_Rmark) = true)
    (m_Rend : PySem.W.findIn K (.ref CR) "_end" = some (some (.ref f_Rend)))
    (i_Rend : PySem.W.isFn K (.ref f_Rend) = true)
    (l_Rend : K.lookup f_Rend = some ⟨oc_Rend, od_Rend, .func (PySem.W.fnOf "_end" "Reader._end" (defArgs t_Reader_end) (defBody t_Reader_end) (defScope t_Reader_end) .none kV_Rend dc_Rend pm_Rend an_Rend cd_Rend ct_Rend), sl_Rend⟩)
    (c_Rend : PySem.W.codeIn K cd_Rend "Reader._end" = true)
    (k_Rend : PySem.W.keepIn K (.ref f_Rend) = true)
    (m_Pinit : PySem.W.findIn K (.ref CPg) "__init__" = some (some (.ref f_Pinit)))
    (i_Pinit : PySem.W.isFn K (.ref f_Pinit) = true)
    (l_Pinit : K.lookup f_Pinit = some ⟨oc_Pinit, od_Pinit, .func (PySem.W.fnOf "__init__" "Program.__init__" (defArgs t_Program_init) (defBody t_Program_init) (defScope t_Program_init) .none kV_Pinit dc_Pinit pm_Pinit an_Pinit cd_Pinit ct_Pinit), sl_Pinit⟩)
    (c_Pinit : PySem.W.codeIn K cd_Pinit "Program.__init__" = true)
    (k_Pinit : PySem.W.keepIn K (.ref f_Pinit) = true)
    (m_Pstr : PySem.W.findIn K (.ref CPg) "__str__" = some (some (.ref f_Pstr)))
    (i_Pstr : PySem.W.isFn K (.ref f_Pstr) = true)
    (l_Pstr : K.lookup f_Pstr = some ⟨oc_Pstr, od_Pstr, .func (PySem.W.fnOf "__str__" "Program.__str__" (defArgs t_Program_str) (defBody t_Program_str) (defScope t_Program_str) .none kV_Pstr dc_Pstr pm_Pstr an_Pstr cd_Pstr ct_Pstr), sl_Pstr⟩)
    (c_Pstr : PySem.W.codeIn K cd_Pstr "Program.__str__" = true)
    (k_Pstr : PySem.W.keepIn K (.ref f_Pstr) = true)
    (m_Peq : PySem.W.findIn K (.ref CPg) "__eq__" = some (some (.ref f_Peq)))
    (i_Peq : PySem.W.isFn K (.ref f_Peq) = true)
    (l_Peq : K.lookup f_Peq = some ⟨oc_Peq, od_Peq, .func (PySem.W.fnOf "__eq__" "Program.__eq__" (defArgs t_Program_eq) (defBody t_Program_eq) (defScope t_Program_eq) .none kV_Peq dc_Peq pm_Peq an_Peq cd_Peq ct_Peq), sl_Peq⟩)
    (c_Peq : PySem.W.codeIn K cd_Peq "Program.__eq__" = true)
    (k_Peq : PySem.W.keepIn K (.ref f_Peq) = true)
    (m_Plen : PySem.W.findIn K (.ref CPg) "__len__" = some (some (.ref f_Plen)))
    (i_Plen : PySem.W.isFn K (.ref f_Plen) = true)
    (l_Plen : K.lookup f_Plen = some ⟨oc_Plen, od_Plen, .func (PySem.W.fnOf "__len__" "Program.__len__" (defArgs t_Program_len) (defBody t_Program_len) (defScope t_Program_len) .none kV_Plen dc_Plen pm_Plen an_Plen cd_Plen ct_Plen), sl_Plen⟩)
    (c_Plen : PySem.W.codeIn K cd_Plen "Program.__len__" = true)
    (k_Plen : PySem.W.keepIn K (.ref f_Plen) = true)
    (rd_read : PySem.W.readsIn K CPg (.type "type") = true)
    (ga_read : PySem.W.specialIn K (.ref CPg) "__getattribute__" = some (some (.builtin "type.__getattribute__")))
    (at_read : PySem.W.findCls K (.ref CPg) (.type "type") "read" = some (.get (.builtin "staticmethod.__get__") (.ref p_read) .none (.ref CPg)))
    (rc_read : PySem.W.recIn K p_read "staticmethod" = some (.ref f_Pread :: rest_read))
    (l_Pread : K.lookup f_Pread = some ⟨oc_Pread, od_Pread, .func (PySem.W.fnOf "read" "Program.read" (defArgs t_Program_read) (defBody t_Program_read) (defScope t_Program_read) .none kV_Pread dc_Pread pm_Pread an_Pread cd_Pread ct_Pread), sl_Pread⟩)
    (c_Pread : PySem.W.codeIn K cd_Pread "Program.read" = true)
    (k_Pread : PySem.W.keepIn K (.ref f_Pread) = true)
    (l_dT : K.lookup dT_copy = some ⟨oT, dTd, .seq (List.toArray [Value.int 12 tkT]) nT, slT⟩)
    (op : PySem.W.nsIn K cStatics "thirdparty.any" = some none)
    (hn : PySem.W.specialIn K (.builtin "object.__class__") "__get__" = some (some (.builtin "getset_descriptor.__get__")))
    (ht : PySem.W.takesIn K (.builtin "object.__class__") = some true)
    (ec_Pg : PySem.W.findIn K (.ref CPg) "__class__" = some (some (.builtin "object.__class__")))
    (hm_Pg : PySem.W.mroIn K CPg (.type "object") = some true)
    (ne_Pg : PySem.W.findIn K (.ref CPg) "__ne__" = some (some (.builtin "object.__ne__")))
    (ks_Pg : PySem.W.kitOne K (.type "str") (.ref CPg) = some false)
    (kt_Pg : PySem.W.kitOne K (.type "tuple") (.ref CPg) = some false)
    (kp_Pg : PySem.W.kitOne K (.ref CPg) (.ref CPg) = some true)
    (ns_Pg : PySem.W.notFirst K CPg (.type "str") = true)
    (nt_Pg : PySem.W.notFirst K CPg (.type "tuple") = true)
    (lc_B : K.lookup CB = some (excClassObj nm_B q_B CB N_B bs_B [.ref CL, .type "ValueError", .type "Exception", .type "BaseException", .type "object"] true sn_B sub_B ab_B col_B dd_B x0_B x1_B x2_B x3_B x5_B "ValueError.__new__"))
    (al_B : PySem.W.alongIn K "__init__" [.ref CL, .type "ValueError", .type "Exception", .type "BaseException", .type "object"] = some (some (.builtin "ValueError.__init__")))
    (su_B : PySem.W.subIn K (.ref CB) (.type "ValueError") = some true)
    (es_B : PySem.W.findIn K (.ref CB) "__setattr__" = some (some (.builtin "object.__setattr__")))
    (ex_B : PySem.W.subIn K (.ref CB) (.type "BaseException") = some true)
    (ty_B : PySem.W.typeIn K (.ref CB) = some (.type "type"))
    (kc_B : PySem.W.keepIn K (.ref CB) = true)
    (eg_B : PySem.W.findIn K (.ref CB) "__getattribute__" = some (some (.builtin "BaseException.__getattribute__")))
    (gg_B : PySem.W.findIn K (.ref CB) "__getattr__" = some none)
    (hd_B : PySem.W.hasDictIn K CB = true)
    (ec_B : PySem.W.findIn K (.ref CB) "__class__" = some (some (.builtin "object.__class__")))
    (hm_B : PySem.W.mroIn K CB (.type "object") = some true)
    (no_B : PySem.W.findIn K (.ref CB) "at" = some none)
    (iC_B : PySem.W.findIn K (.ref CB) "__init__" = some (some (.ref f_eB)))
    (tI_B : PySem.W.typeIn K (.ref f_eB) = some (.type "function"))
    (l_eB : K.lookup f_eB = some ⟨oc_eB, od_eB, .func (PySem.W.ksFn "__init__" "BadRow.__init__" (defArgs t_BadRow_init) (defBody t_BadRow_init) (defScope t_BadRow_init) .none kV_eB dc_eB pm_eB an_eB (.ref cda_eB) ct_eB cc_eB), sl_eB⟩)
    (c_eB : PySem.W.codeIn K (.ref cda_eB) "BadRow.__init__" = true)
    (lcd_eB : K.lookup cda_eB = some ⟨ccl_eB, cdd_eB, .fields xs_eB, ccs_eB⟩)
    (xf_eB : xs_eB[2]? = some (.str file_eB tf_eB))
    (fi_eB : ((P.main.file : Str) == file_eB) = true)
    (lcc_eB : K.lookup cc_eB = some ⟨cl_eB, cld_eB, .cell (some (.ref CB)), csl_eB⟩)
    (lc_T : K.lookup CT = some (excClassObj nm_T q_T CT N_T bs_T [.ref CL, .type "ValueError", .type "Exception", .type "BaseException", .type "object"] true sn_T sub_T ab_T col_T dd_T x0_T x1_T x2_T x3_T x5_T "ValueError.__new__"))
    (al_T : PySem.W.alongIn K "__init__" [.ref CL, .type "ValueError", .type "Exception", .type "BaseException", .type "object"] = some (some (.builtin "ValueError.__init__")))
    (su_T : PySem.W.subIn K (.ref CT) (.type "ValueError") = some true)
    (es_T : PySem.W.findIn K (.ref CT) "__setattr__" = some (some (.builtin "object.__setattr__")))
    (ex_T : PySem.W.subIn K (.ref CT) (.type "BaseException") = some true)
    (ty_T : PySem.W.typeIn K (.ref CT) = some (.type "type"))
    (kc_T : PySem.W.keepIn K (.ref CT) = true)
    (eg_T : PySem.W.findIn K (.ref CT) "__getattribute__" = some (some (.builtin "BaseException.__getattribute__")))
    (gg_T : PySem.W.findIn K (.ref CT) "__getattr__" = some none)
    (hd_T : PySem.W.hasDictIn K CT = true)
    (no_T : PySem.W.findIn K (.ref CT) "word" = some none)
    (iC_T : PySem.W.findIn K (.ref CT) "__init__" = some (some (.ref f_eT)))
    (tI_T : PySem.W.typeIn K (.ref f_eT) = some (.type "function"))
    (l_eT : K.lookup f_eT = some ⟨oc_eT, od_eT, .func (PySem.W.ksFn "__init__" "TooMany.__init__" (defArgs t_TooMany_init) (defBody t_TooMany_init) (defScope t_TooMany_init) .none kV_eT dc_eT pm_eT an_eT (.ref cda_eT) ct_eT cc_eT), sl_eT⟩)
    (c_eT : PySem.W.codeIn K (.ref cda_eT) "TooMany.__init__" = true)
    (lcd_eT : K.lookup cda_eT = some ⟨ccl_eT, cdd_eT, .fields xs_eT, ccs_eT⟩)
    (xf_eT : xs_eT[2]? = some (.str file_eT tf_eT))
    (fi_eT : ((P.main.file : Str) == file_eT) = true)
    (lcc_eT : K.lookup cc_eT = some ⟨cl_eT, cld_eT, .cell (some (.ref CT)), csl_eT⟩)
    (lc_U : K.lookup CU = some (excClassObj nm_U q_U CU N_U bs_U keTail true sn_U sub_U ab_U col_U dd_U x0_U x1_U x2_U x3_U x5_U "LookupError.__new__"))
    (al_U : PySem.W.alongIn K "__init__" keTail = some (some (.builtin "KeyError.__init__")))
    (su_U : PySem.W.subIn K (.ref CU) (.type "KeyError") = some true)
    (es_U : PySem.W.findIn K (.ref CU) "__setattr__" = some (some (.builtin "object.__setattr__")))
    (ex_U : PySem.W.subIn K (.ref CU) (.type "BaseException") = some true)
    (ty_U : PySem.W.typeIn K (.ref CU) = some (.type "type"))
    (kc_U : PySem.W.keepIn K (.ref CU) = true)
    (eg_U : PySem.W.findIn K (.ref CU) "__getattribute__" = some (some (.builtin "BaseException.__getattribute__")))
    (gg_U : PySem.W.findIn K (.ref CU) "__getattr__" = some none)
    (hd_U : PySem.W.hasDictIn K CU = true)
    (ec_U : PySem.W.findIn K (.ref CU) "__class__" = some (some (.builtin "object.__class__")))
    (hm_U : PySem.W.mroIn K CU (.type "object") = some true)
    (no_U : PySem.W.findIn K (.ref CU) "name" = some none)
    (iC_U : PySem.W.findIn K (.ref CU) "__init__" = some (some (.ref f_eU)))
    (tI_U : PySem.W.typeIn K (.ref f_eU) = some (.type "function"))
    (l_eU : K.lookup f_eU = some ⟨oc_eU, od_eU, .func (PySem.W.ksFn "__init__" "Unknown.__init__" (defArgs t_Unknown_init) (defBody t_Unknown_init) (defScope t_Unknown_init) .none kV_eU dc_eU pm_eU an_eU (.ref cda_eU) ct_eU cc_eU), sl_eU⟩)
    (c_eU : PySem.W.codeIn K (.ref cda_eU) "Unknown.__init__" = true)
    (lcd_eU : K.lookup cda_eU = some ⟨ccl_eU, cdd_eU, .fields xs_eU, ccs_eU⟩)
    (xf_eU : xs_eU[2]? = some (.str file_eU tf_eU))
    (fi_eU : ((P.main.file : Str) == file_eU) = true)
    (lcc_eU : K.lookup cc_eU = some ⟨cl_eU, cld_eU, .cell (some (.ref CU)), csl_eU⟩)
    (bb : PySem.W.exmOne K (.ref CB) (.ref CB) = some true)
    (ub : PySem.W.exmOne K (.ref CU) (.ref CB) = some false)
    (uu : PySem.W.exmOne K (.ref CU) (.ref CU) = some true)
    (tb : PySem.W.exmOne K (.ref CT) (.ref CB) = some false)
    (tu : PySem.W.exmOne K (.ref CT) (.ref CU) = some false)
    (tt : PySem.W.exmOne K (.ref CT) (.ref CT) = some true)
    (kBL : PySem.W.kitOne K (.ref CB) (.ref CL) = some true)
    (kBT : PySem.W.kitOne K (.ref CB) (.ref CT) = some false)
    (kUL : PySem.W.kitOne K (.ref CU) (.ref CL) = some false)
    (htop : (P.main.scope.names.lookup ("super" : Str)).isSome = false)
    (q_long : PySem.W.nsIn K mainGlobals "_LONGEST_WORD" = some (some (.int 8 tk_long)))
    (q_shownN : PySem.W.nsIn K mainGlobals "_SHOWN" = some (some (.int 60 tk_shownN)))
    (q_great : PySem.W.nsIn K mainGlobals "_GREAT" = some (some (.int 1000000000 tk_great)))
    (q_mrows : PySem.W.nsIn K mainGlobals "_MOST_ROWS" = some (some (.int 100 tk_mrows)))
    (q_mjobs : PySem.W.nsIn K mainGlobals "_MOST_JOBS" = some (some (.int 6 tk_mjobs)))
    (q_mwalks : PySem.W.nsIn K mainGlobals "_MOST_WALKS" = some (some (.int 6 tk_mwalks)))
    (q_mdeep : PySem.W.nsIn K mainGlobals "_MOST_DEEP" = some (some (.int 6 tk_mdeep)))
    (q_W : PySem.W.nsIn K mainGlobals "WORDS" = some (some (.ref a_W)))
    (l_W : K.lookup a_W = some ⟨.type "tuple", od_W, .seq its_W n_W, sl_W⟩)
    (v_W : strsOf its_W.toList = some wordsL)
    (q_H : PySem.W.nsIn K mainGlobals "HOWS" = some (some (.ref a_H)))
    (l_H : K.lookup a_H = some ⟨.type "tuple", od_H, .seq its_H n_H, sl_H⟩)
    (v_H : strsOf its_H.toList = some howsL)
    (q_Bl : PySem.W.nsIn K mainGlobals "_BLOCKS" = some (some (.ref a_Bl)))
    (l_Bl : K.lookup a_Bl = some ⟨.type "tuple", od_Bl, .seq its_Bl n_Bl, sl_Bl⟩)
    (v_Bl : strsOf its_Bl.toList = some blocksL)
    (q_F : PySem.W.nsIn K mainGlobals "_FORMS" = some (some (.ref a_F)))
    (l_F : K.lookup a_F = some ⟨.type "dict", none, .dict es_F n_F, #[]⟩)
    (kl_F : PySem.W.KeysLit w.params es_F.toList)
    (lo_F : (a_F == sysModules) = false)
    (v_F : formsB K es_F.toList formsL = true)
    : ∃ fd : FuncData, Fun K "law" "law" t_law fa fd ∧ (∀ (s : Shared) (u : Value), BindsTo s fd ⟨[u], []⟩ [("_law_script", u)]) ∧ ∀ base : Heap, K.In base → base.Ns mainGlobals mg → BodyG P w K mg base fa := by
  have e := hfa.symm.trans (PySem.W.mg_of X G a_law)
  cases e
  have m : ∀ {n : Str} {v : Value}, PySem.W.nsIn K mainGlobals n = some (some v) → mg n = some v := fun e => PySem.W.mg_of X G e
  have z : ∀ {n : Str}, PySem.W.nsIn K mainGlobals n = some none → mg n = none := fun e => PySem.W.mg_none_of X G e
  have B : Bt mg := ⟨z n_isinstance, z n_len, z n_str, z n_int, z n_all, z n_any, z n_zip, z n_enumerate, z n_list, z n_tuple, z n_sorted, z n_set, z n_max, z n_min, z n_range, z n_abs, z n_repr⟩
  have Rr : Er mg := ⟨⟨_, m q_shownN⟩, ⟨_, m q_great⟩, z n_dict, z n_super⟩
  have Ww : Wd K mg := ⟨⟨a_W, m q_W, tup_here l_W v_W (by decide)⟩, ⟨a_H, m q_H, tup_here l_H v_H (by decide)⟩, ⟨_, m q_long⟩⟩
  have hBl : ∃ a, mg "_BLOCKS" = some (.ref a) ∧ ∀ H, SqT K H a (blocksL.map V.str) := ⟨a_Bl, m q_Bl, tup_here l_Bl v_Bl (by decide)⟩
  have Ll : Lm mg := ⟨⟨_, m q_mrows⟩, ⟨_, m q_mjobs⟩, ⟨_, m q_mwalks⟩, ⟨_, m q_mdeep⟩⟩
  have Ff : Fm K w mg a_F es_F n_F := forms_fm (m q_F) l_F kl_F lo_F v_F
  have Ss : StC K mg CS := ⟨⟨pg_S, hd_S, po_S, sa_S⟩, m g_S, at_S_word, at_S_name, at_S_how, at_S_many, at_S_body, at_S_mark, at_S_behind⟩
  have Rd : RdC K mg CR := ⟨⟨pg_R, hd_R, po_R, sa_R⟩, m g_R, at_R_jobs, at_R_walks, at_R_gates, at_R_begun, at_R_deepest, at_R_around⟩
  have Pp : PgC K mg CPg := ⟨⟨pg_Pg, hd_Pg, po_Pg, sa_Pg⟩, m g_Pg, at_Pg_rows, at_Pg_job_steps, at_Pg_walk_steps, at_Pg_jobs, at_Pg_walks, at_Pg_gates⟩
  have F_shown := fun_mk (st := t_shown) l_shown c_shown k_shown
  have b_shown := F_shown.binds (ps := ["value"]) fun _ _ _ _ _ _ us hl => match us, hl with | [_], _ => rfl
  have F_isname := fun_mk (st := t_is_name) l_isname c_isname k_isname
  have b_isname := F_isname.binds (ps := ["value"]) fun _ _ _ _ _ _ us hl => match us, hl with | [_], _ => rfl
  have F_ishow := fun_mk (st := t_is_how) l_ishow c_ishow k_ishow
  have b_ishow := F_ishow.binds (ps := ["value"]) fun _ _ _ _ _ _ us hl => match us, hl with | [_], _ => rfl
  have F_isfig := fun_mk (st := t_is_figure) l_isfig c_isfig k_isfig
  have b_isfig := F_isfig.binds (ps := ["part"]) fun _ _ _ _ _ _ us hl => match us, hl with | [_], _ => rfl
  have F_ofsort := fun_mk (st := t_is_of_sort) l_ofsort c_ofsort k_ofsort
  have b_ofsort := F_ofsort.binds (ps := ["part", "sort"]) fun _ _ _ _ _ _ us hl => match us, hl with | [_, _], _ => rfl
  have F_hasform := fun_mk (st := t_has_form) l_hasform c_hasform k_hasform
  have b_hasform := F_hasform.binds (ps := ["parts"]) fun _ _ _ _ _ _ us hl => match us, hl with | [_], _ => rfl
  have F_keeps := fun_mk (st := t_keeps) l_keeps c_keeps k_keeps
  have b_keeps := F_keeps.binds (ps := ["block", "walk"]) fun _ _ _ _ _ _ us hl => match us, hl with | [_, _], _ => rfl
  have F_rows := fun_mk (st := t_read_rows) l_rows c_rows k_rows
  have b_rows := F_rows.binds (ps := ["rows"]) fun _ _ _ _ _ _ us hl => match us, hl with | [_], _ => rfl
  have F_cnames := fun_mk (st := t_check_names) l_cnames c_cnames k_cnames
  have b_cnames := F_cnames.binds (ps := ["reader"]) fun _ _ _ _ _ _ us hl => match us, hl with | [_], _ => rfl
  have F_climits := fun_mk (st := t_check_limits) l_climits c_climits k_climits
  have b_climits := F_climits.binds (ps := ["reader", "rows"]) fun _ _ _ _ _ _ us hl => match us, hl with | [_, _], _ => rfl
  have F_box := fun_mk (st := t_law_box) l_box c_box k_box
  have b_box := F_box.binds (ps := ["_law_script", "_law_k", "_law_own"]) fun _ _ _ _ _ _ us hl => match us, hl with | [_, _, _], _ => rfl
  have F_take := fun_mk (st := t_law_take) l_take c_take k_take
  have b_take := F_take.binds (ps := ["_law_box_here", "_law_many"]) fun _ _ _ _ _ _ us hl => match us, hl with | [_, _], _ => rfl
  have F_mixed := fun_mk (st := t_law_mixed) l_mixed c_mixed k_mixed
  have b_mixed := F_mixed.binds (ps := ["_law_box_here", "_law_items"]) fun _ _ _ _ _ _ us hl => match us, hl with | [_, _], _ => rfl
  have F_pick := fun_mk (st := t_law_pick) l_pick c_pick k_pick
  have b_pick := F_pick.binds (ps := ["_law_box_here", "_law_items"]) fun _ _ _ _ _ _ us hl => match us, hl with | [_, _], _ => rfl
  have F_names := fun_mk (st := t_law_names) l_names c_names k_names
  have b_names := F_names.binds (ps := ["_law_box_here", "_law_many"]) fun _ _ _ _ _ _ us hl => match us, hl with | [_, _], _ => rfl
  have F_world := fun_mk (st := t_law_world) l_world c_world k_world
  have b_world := F_world.binds (ps := ["_law_box_here", "_law_jobs", "_law_walks"]) fun _ _ _ _ _ _ us hl => match us, hl with | [_, _, _], _ => rfl
  have F_lrows := fun_mk (st := t_law_rows) l_lrows c_lrows k_lrows
  have b_lrows := F_lrows.binds (ps := ["_law_box_here", "_law_world_here", "_law_deep", "_law_is_late", "_law_kept"]) fun _ _ _ _ _ _ us hl => match us, hl with | [_, _, _, _, _], _ => rfl
  have F_lrow := fun_mk (st := t_law_row) l_lrow c_lrow k_lrow
  have b_lrow := F_lrow.binds (ps := ["_law_box_here", "_law_world_here", "_law_deep", "_law_is_late", "_law_kept"]) fun _ _ _ _ _ _ us hl => match us, hl with | [_, _, _, _, _], _ => rfl
  have F_blk := fun_mk (st := t_law_block) l_blk c_blk k_blk
  have b_blk := F_blk.binds (ps := ["_law_box_here", "_law_world_here", "_law_deep", "_law_is_late", "_law_kept"]) fun _ _ _ _ _ _ us hl => match us, hl with | [_, _, _, _, _], _ => rfl
  have F_prog := fun_mk (st := t_law_program) l_prog c_prog k_prog
  have b_prog := F_prog.binds (ps := ["_law_box_here", "_law_world_here", "_law_most"]) fun _ _ _ _ _ _ us hl => match us, hl with | [_, _, _], _ => rfl
  have F_some := fun_mk (st := t_law_some_program) l_some c_some k_some
  have b_some := F_some.binds (ps := ["_law_box_here"]) fun _ _ _ _ _ _ us hl => match us, hl with | [_], _ => rfl
  have F_long := fun_mk (st := t_law_long) l_long c_long k_long
  have b_long := F_long.binds (ps := ["_law_box_here"]) fun _ _ _ _ _ _ us hl => match us, hl with | [_], _ => rfl
  have F_told := fun_mk (st := t_law_told) l_told c_told k_told
  have b_told := F_told.binds (ps := ["_law_rows_here"]) fun _ _ _ _ _ _ us hl => match us, hl with | [_], _ => rfl
  have F_law := fun_mk (st := t_law) l_law c_law k_law
  have b_law := F_law.binds (ps := ["_law_script"]) fun _ _ _ _ _ _ us hl => match us, hl with | [_], _ => rfl
  have F_Sinit := fun_mk (st := t_Step_init) l_Sinit c_Sinit k_Sinit
  have b_Sinit := F_Sinit.binds (ps := ["self", "parts"]) fun _ _ _ _ _ _ us hl => match us, hl with | [_, _], _ => rfl
  have F_Rinit := fun_mk (st := t_Reader_init) l_Rinit c_Rinit k_Rinit
  have b_Rinit := F_Rinit.binds (ps := ["self"]) fun _ _ _ _ _ _ us hl => match us, hl with | [_], _ => rfl
  have F_Rtake := fun_mk (st := t_Reader_take) l_Rtake c_Rtake k_Rtake
  have b_Rtake := F_Rtake.binds (ps := ["self", "parts"]) fun _ _ _ _ _ _ us hl => match us, hl with | [_, _], _ => rfl
  have F_Rdef := fun_mk (st := t_Reader_define) l_Rdef c_Rdef k_Rdef
  have b_Rdef := F_Rdef.binds (ps := ["self", "parts"]) fun _ _ _ _ _ _ us hl => match us, hl with | [_, _], _ => rfl
  have F_Radd := fun_mk (st := t_Reader_add) l_Radd c_Radd k_Radd
  have b_Radd := F_Radd.binds (ps := ["self", "step"]) fun _ _ _ _ _ _ us hl => match us, hl with | [_, _], _ => rfl
  have F_Rmay := fun_mk (st := t_Reader_may_stand) l_Rmay c_Rmay k_Rmay
  have b_Rmay := F_Rmay.binds (ps := ["self", "step"]) fun _ _ _ _ _ _ us hl => match us, hl with | [_, _], _ => rfl
  have F_Rrem := fun_mk (st := t_Reader_remember) l_Rrem c_Rrem k_Rrem
  have b_Rrem := F_Rrem.binds (ps := ["self", "step"]) fun _ _ _ _ _ _ us hl => match us, hl with | [_, _], _ => rfl
  have F_Rmark := fun_mk (st := t_Reader_mark) l_Rmark c_Rmark k_Rmark
  have b_Rmark := F_Rmark.binds (ps := ["self", "word"]) fun _ _ _ _ _ _ us hl => match us, hl with | [_, _], _ => rfl
  have F_Rend := fun_mk (st := t_Reader_end) l_Rend c_Rend k_Rend
  have b_Rend := F_Rend.binds (ps := ["self"]) fun _ _ _ _ _ _ us hl => match us, hl with | [_], _ => rfl
  have F_Pinit := fun_mk (st := t_Program_init) l_Pinit c_Pinit k_Pinit
  have b_Pinit := F_Pinit.binds (ps := ["self", "text"]) fun _ _ _ _ _ _ us hl => match us, hl with | [_, _], _ => rfl
  have F_Pstr := fun_mk (st := t_Program_str) l_Pstr c_Pstr k_Pstr
  have b_Pstr := F_Pstr.binds (ps := ["self"]) fun _ _ _ _ _ _ us hl => match us, hl with | [_], _ => rfl
  have F_Peq := fun_mk (st := t_Program_eq) l_Peq c_Peq k_Peq
  have b_Peq := F_Peq.binds (ps := ["self", "other"]) fun _ _ _ _ _ _ us hl => match us, hl with | [_, _], _ => rfl
  have F_Plen := fun_mk (st := t_Program_len) l_Plen c_Plen k_Plen
  have b_Plen := F_Plen.binds (ps := ["self"]) fun _ _ _ _ _ _ us hl => match us, hl with | [_], _ => rfl
  have F_Pread := fun_mk (st := t_Program_read) l_Pread c_Pread k_Pread
  have b_Pread := F_Pread.binds (ps := ["text"]) fun _ _ _ _ _ _ us hl => match us, hl with | [_], _ => rfl
  have F_copy : FunD K "copy_of" "copy_of" (defArgs t_copy_of) (defBody t_copy_of) (defScope t_copy_of) [.int 12] [] f_copy _ := ⟨⟨_, _, _, _, _, _, _, _, _, _, rfl, l_copy, c_copy, .inr ⟨by simp, _, _, [Value.int 12 tkT], nT, rfl, l_dT, rfl, .cons ⟨tkT, rfl⟩ .nil⟩, .inl rfl⟩, k_copy⟩
  obtain ⟨dvs, vC, b_copy⟩ := F_copy.binds1 (ps := ["value", "depth"]) 1 0 (by simp) rfl fun T kV doc pm an cdv ct us its hu hi => match us, hu, its, hi with | [_], _, [_], _ => ⟨_, rfl, rfl⟩
  have vC : Vals [.int 12] dvs := vC
  have T_B : OwC K CB "ValueError" "ValueError.__init__" := ⟨⟨_, _, _, _, _, _, _, _, _, _, _, _, _, _, _, _, _, _, _, lc_B, abv_VE (by rfl), al_B⟩, inf_VE, su_B, es_B, ex_B, ty_B, kc_B, op⟩
  have F_eB : SupF P K CB f_eB "BadRow.__init__" t_BadRow_init _ := ⟨⟨_, _, _, _, _, _, _, _, _, _, _, _, _, _, _, _, _, _, _, _, rfl, l_eB, c_eB, lcd_eB, xf_eB, fi_eB, lcc_eB⟩⟩
  have b_eB : Binds K (PySem.W.ksFn "__init__" "BadRow.__init__" (defArgs t_BadRow_init) (defBody t_BadRow_init) (defScope t_BadRow_init) .none kV_eB dc_eB pm_eB an_eB (.ref cda_eB) ct_eB cc_eB) ["self", "at"] [] := .all fun us hl => match us, hl with | [_, _], _ => rfl
  have T_T : OwC K CT "ValueError" "ValueError.__init__" := ⟨⟨_, _, _, _, _, _, _, _, _, _, _, _, _, _, _, _, _, _, _, lc_T, abv_VE (by rfl), al_T⟩, inf_VE, su_T, es_T, ex_T, ty_T, kc_T, op⟩
  have F_eT : SupF P K CT f_eT "TooMany.__init__" t_TooMany_init _ := ⟨⟨_, _, _, _, _, _, _, _, _, _, _, _, _, _, _, _, _, _, _, _, rfl, l_eT, c_eT, lcd_eT, xf_eT, fi_eT, lcc_eT⟩⟩
  have b_eT : Binds K (PySem.W.ksFn "__init__" "TooMany.__init__" (defArgs t_TooMany_init) (defBody t_TooMany_init) (defScope t_TooMany_init) .none kV_eT dc_eT pm_eT an_eT (.ref cda_eT) ct_eT cc_eT) ["self", "word"] [] := .all fun us hl => match us, hl with | [_, _], _ => rfl
  have T_U : OwC K CU "KeyError" "KeyError.__init__" := ⟨⟨_, _, _, _, _, _, _, _, _, _, _, _, _, _, _, _, _, _, _, lc_U, abv_KE, al_U⟩, inf_KE, su_U, es_U, ex_U, ty_U, kc_U, op⟩
  have F_eU : SupF P K CU f_eU "Unknown.__init__" t_Unknown_init _ := ⟨⟨_, _, _, _, _, _, _, _, _, _, _, _, _, _, _, _, _, _, _, _, rfl, l_eU, c_eU, lcd_eU, xf_eU, fi_eU, lcc_eU⟩⟩
  have b_eU : Binds K (PySem.W.ksFn "__init__" "Unknown.__init__" (defArgs t_Unknown_init) (defBody t_Unknown_init) (defScope t_Unknown_init) .none kV_eU dc_eU pm_eU an_eU (.ref cda_eU) ct_eU cc_eU) ["self", "name"] [] := .all fun us hl => match us, hl with | [_, _], _ => rfl
  have Px : PgX K CPg f_Peq f_Plen f_Pstr := ⟨ec_Pg, hn, ht, hm_Pg, ne_Pg, m_Peq, i_Peq, m_Plen, i_Plen, m_Pstr, i_Pstr, ks_Pg, kt_Pg, kp_Pg, ns_Pg, nt_Pg⟩
  refine ⟨_, F_law, fun s u => .of_eq rfl, fun base _ _ => ?_⟩
  have Zx : Hx P w K mg base f_shown f_copy _ _ dvs := ⟨ok_shown F_shown B Rr, m a_shown, k_shown, b_shown, ok_copy F_copy B Rr, m a_copy, k_copy, b_copy, vC⟩
  have ZB : Exq P w K mg base "BadRow" "at" CB f_eB _ _ _ := ⟨T_B, iC_B, tI_B, ok_BadRow F_eB T_B Rr Zx no_B htop, b_eB, m g_B⟩
  have ZT : Exq P w K mg base "TooMany" "word" CT f_eT _ _ _ := ⟨T_T, iC_T, tI_T, ok_TooMany F_eT T_T Rr Zx no_T htop, b_eT, m g_T⟩
  have ZU : Exq P w K mg base "Unknown" "name" CU f_eU _ _ _ := ⟨T_U, iC_U, tI_U, ok_Unknown F_eU T_U Rr Zx no_U htop, b_eU, m g_U⟩
  have G_isname : FnOk P w K mg base CX0 1 f_isname _ _ _ := ok_is_name F_isname B Ww
  have G_ishow : FnOk P w K mg base CX0 1 f_ishow _ _ _ := ok_is_how F_ishow B Ww
  have G_isfig : FnOk P w K mg base CX0 1 f_isfig _ _ _ := ok_is_figure F_isfig B
  have G_ofsort := ok_of_sort F_ofsort G_isname ⟨m a_isname, b_isname⟩ k_isname G_ishow ⟨m a_ishow, b_ishow⟩ k_ishow G_isfig ⟨m a_isfig, b_isfig⟩ k_isfig
  have G_hasform := ok_has_form F_hasform B Ff G_ofsort ⟨m a_ofsort, b_ofsort⟩ k_ofsort
  have G_Sinit : FnOk P w K mg base CX0 1 f_Sinit _ _ _ := ok_Step F_Sinit B Ss
  have M_S : Mk K CS f_Sinit := ⟨mk_S, m_Sinit, i_Sinit, kc_S⟩
  have G_keeps : FnOk P w K mg base CX0 1 f_keeps _ _ (spKeeps CS) := ok_keeps F_keeps Ss
  have G_Rdef : FnOk P w K mg base CX0 3 f_Rdef _ _ (spDefine K CR CS) := ok_define F_Rdef Rd Ss G_Sinit M_S b_Sinit
  have G_Rmark : FnOk P w K mg base CX0 1 f_Rmark _ _ (spMark CR CS) := ok_mark F_Rmark Rd Ss
  have G_Rend : FnOk P w K mg base CX0 1 f_Rend _ _ (spEnd CR CS) := ok_end F_Rend Rd Ss
  have G_Rrem : FnOk P w K mg base CX0 1 f_Rrem _ _ (spRemember CR CS) := ok_remember F_Rrem Rd Ss
  have G_Rmay : FnOk P w K mg base CX0 2 f_Rmay _ _ (spMayStand CR CS) := ok_may F_Rmay B Rd Ss G_keeps ⟨m a_keeps, b_keeps⟩ k_keeps
  have G_Radd : FnOk P w K mg base CX0 3 f_Radd _ _ (spAdd CR CS) := ok_add F_Radd B Rd Ss G_Rmay ⟨m_Rmay, i_Rmay, k_Rmay⟩ b_Rmay G_Rrem ⟨m_Rrem, i_Rrem, k_Rrem⟩ b_Rrem hBl
  have G_Rtake : FnOk P w K mg base CX0 4 f_Rtake _ _ (spTake K CR CS) := ok_take F_Rtake Rd Ss ⟨G_hasform, ⟨m a_hasform, b_hasform⟩, k_hasform, G_Rdef, ⟨m_Rdef, i_Rdef, k_Rdef⟩, b_Rdef, G_Rmark, ⟨m_Rmark, i_Rmark, k_Rmark⟩, b_Rmark, G_Rend, ⟨m_Rend, i_Rend, k_Rend⟩, b_Rend, G_Radd, ⟨m_Radd, i_Radd, k_Radd⟩, b_Radd, G_Sinit, M_S, b_Sinit⟩
  have G_Rinit : FnOk P w K mg base CX0 1 f_Rinit _ _ (spRInit CR CS) := ok_RInit F_Rinit Rd
  have G_cnames : FnOk P w K mg base (L2.CX P w) 4 f_cnames _ _ (spNames CR CS CU) := ok_names F_cnames Rd ZU
  have G_climits : FnOk P w K mg base (L2.CX P w) 4 f_climits _ _ (spLimits CR CS CT) := ok_limits F_climits B Rd Ll ZT
  have G_rows : FnOk P w K mg base (L2.CX P w) 5 f_rows _ _ (spRows K CR CS CB CU CT) := ok_rows F_rows B Rd ⟨G_Rinit, ⟨mk_R, m_Rinit, i_Rinit, kc_R⟩, b_Rinit, G_Rtake, ⟨m_Rtake, i_Rtake, k_Rtake⟩, b_Rtake, G_cnames, m a_cnames, k_cnames, b_cnames, G_climits, m a_climits, k_climits, b_climits⟩ ZB
  have G_Pinit : FnOk P w K mg base (L2.CX P w) 6 f_Pinit _ _ (spPInit K CPg CR CS CB CU CT) := ok_PInit F_Pinit B Pp Rd G_rows (m a_rows) k_rows b_rows
  have G_Pread : FnOk P w K mg base (L2.CX P w) 8 f_Pread _ _ (spRead K CPg CR CS CB CU CT) := ok_read F_Pread Pp G_Pinit ⟨mk_Pg, m_Pinit, i_Pinit, kc_Pg⟩ b_Pinit
  have G_Pstr : FnOk P w K mg base CX0 1 f_Pstr _ _ (spPStr K CPg) := ok_str F_Pstr Pp
  have St : CStat K CPg (.type "type") "read" p_read f_Pread := ⟨rd_read, ga_read, at_read, ⟨_, rc_read⟩, k_Pread⟩
  have G_readG := ok_readG G_Pread
  have G_Peq : FnOk P w K mg base CX0 1 f_Peq _ _ (spPEq K CPg) := ok_peq F_Peq B Pp
  have G_Plen : FnOk P w K mg base CX0 1 f_Plen _ _ (spPLen K CPg) := ok_plen F_Plen B Pp
  have G_draw : FnOk P w K mg base CX0 1 f_take _ _ spDraw := ok_draw F_take B
  have G_pick : FnOk P w K mg base CX0 2 f_pick _ _ spPick := ok_pick F_pick B G_draw (m a_take) k_take b_take
  have G_mix : FnOk P w K mg base CX0 2 f_mixed _ _ spMix := ok_mix F_mixed B G_draw (m a_take) k_take b_take
  have G_names : FnOk P w K mg base CX0 3 f_names _ _ spName8 := ok_names8 F_names B G_draw (m a_take) k_take b_take G_mix (m a_mixed) k_mixed b_mixed
  have G_world : FnOk P w K mg base CX0 4 f_world _ _ spWorld := ok_world F_world B G_draw (m a_take) k_take b_take G_names (m a_names) k_names b_names
  have G_rws : FnOk P w K mg base CX0 16 f_lrows _ fivP (spRws 4) := (ok_deep B G_draw (m a_take) k_take b_take G_pick (m a_pick) k_pick b_pick F_blk (m a_blk) k_blk b_blk F_lrow (m a_lrow) k_lrow b_lrow F_lrows (m a_lrows) k_lrows b_lrows 4).2
  have G_prog : FnOk P w K mg base CX0 17 f_prog _ triP spProg := ok_prog F_prog B G_mix (m a_mixed) k_mixed b_mixed G_rws (m a_lrows) k_lrows b_lrows
  have G_some : FnOk P w K mg base CX0 18 f_some _ _ spText := ok_some F_some B G_draw (m a_take) k_take b_take G_world (m a_world) k_world b_world G_prog (m a_prog) k_prog b_prog
  have G_long : FnOk P w K mg base CX0 4 f_long _ _ spText := ok_long F_long B G_draw (m a_take) k_take b_take G_names (m a_names) k_names b_names
  have G_told : FnOk P w K mg base CX0 1 f_told _ _ spTold := ok_told F_told B
  have G_box : FnOk P w K mg base CX0 1 f_box _ _ (spBox K) := ok_box F_box B
  exact fun cdv A outer s H Q E _ hr a ns hS hQ => law_body B Pp Px G_box (m a_box) k_box b_box G_some (m a_some) k_some b_some G_long (m a_long) k_long b_long G_told (m a_told) k_told b_told G_readG St b_Pread G_Peq b_Peq G_Plen b_Plen G_Pstr b_Pstr cdv A outer s H Q E hr a ns hS hQ
end Ly
end
open PySem PySem.W PyProof.Rows
set_option maxRecDepth 100000 in
set_option maxHeartbeats 0 in
theorem PySem.Challenge.cw_lateyields_k02_programs_read_and_shown_holds : PySem.Challenge.rw_lateyields_k02_programs_read_and_shown.Holds := by
  w_on; o_law; k_head; (case hw => w_witness2)
  k_fill
  refine Ly.walk_G (l := PySem.Challenge.rw_lateyields_k02_programs_read_and_shown) rfl (by decide) rfl ⟨rfl, by decide, by decide⟩ (fun w h Y => PySem.W.kIn_of Y) ?F
  case F =>
    intro w mg fa h KX G hmg
    refine' Ly.all_mk KX G hmg ?g_L ?g_B ?g_T ?g_U ?g_S ?g_R ?g_Pg ?n_isinstance ?n_len ?n_str ?n_int ?n_all ?n_any ?n_zip ?n_enumerate ?n_list ?n_tuple ?n_sorted ?n_set ?n_max ?n_min ?n_range ?n_abs ?n_repr ?n_dict ?n_super ?pg_S ?hd_S ?po_S ?sa_S ?mk_S ?kc_S ?at_S_word ?at_S_name ?at_S_how ?at_S_many ?at_S_body ?at_S_mark ?at_S_behind ?pg_R ?hd_R ?po_R ?sa_R ?mk_R ?kc_R ?at_R_jobs ?at_R_walks ?at_R_gates ?at_R_begun ?at_R_deepest ?at_R_around ?pg_Pg ?hd_Pg ?po_Pg ?sa_Pg ?mk_Pg ?kc_Pg ?at_Pg_rows ?at_Pg_job_steps ?at_Pg_walk_steps ?at_Pg_jobs ?at_Pg_walks ?at_Pg_gates ?a_copy ?l_copy ?c_copy ?k_copy ?a_shown ?l_shown ?c_shown ?k_shown ?a_isname ?l_isname ?c_isname ?k_isname ?a_ishow ?l_ishow ?c_ishow ?k_ishow ?a_isfig ?l_isfig ?c_isfig ?k_isfig ?a_ofsort ?l_ofsort ?c_ofsort ?k_ofsort ?a_hasform ?l_hasform ?c_hasform ?k_hasform ?a_keeps ?l_keeps ?c_keeps ?k_keeps ?a_rows ?l_rows ?c_rows ?k_rows ?a_cnames ?l_cnames ?c_cnames ?k_cnames ?a_climits ?l_climits ?c_climits ?k_climits ?a_box ?l_box ?c_box ?k_box ?a_take ?l_take ?c_take ?k_take ?a_mixed ?l_mixed ?c_mixed ?k_mixed ?a_pick ?l_pick ?c_pick ?k_pick ?a_names ?l_names ?c_names ?k_names ?a_world ?l_world ?c_world ?k_world ?a_lrows ?l_lrows ?c_lrows ?k_lrows ?a_lrow ?l_lrow ?c_lrow ?k_lrow ?a_blk ?l_blk ?c_blk ?k_blk ?a_prog ?l_prog ?c_prog ?k_prog ?a_some ?l_some ?c_some ?k_some ?a_long ?l_long ?c_long ?k_long ?a_told ?l_told ?c_told ?k_told ?a_law ?l_law ?c_law ?k_law ?m_Sinit ?i_Sinit ?l_Sinit ?c_Sinit ?k_Sinit ?m_Rinit ?i_Rinit ?l_Rinit ?c_Rinit ?k_Rinit ?m_Rtake ?i_Rtake ?l_Rtake ?c_Rtake ?k_Rtake ?m_Rdef ?i_Rdef ?l_Rdef ?c_Rdef ?k_Rdef ?m_Radd ?i_Radd ?l_Radd ?c_Radd ?k_Radd ?m_Rmay ?i_Rmay ?l_Rmay ?c_Rmay ?k_Rmay ?m_Rrem ?i_Rrem ?l_Rrem ?c_Rrem ?k_Rrem ?m_Rmark ?i_Rmark ?l_Rmark ?c_Rmark ?k_Rmark ?m_Rend ?i_Rend ?l_Rend ?c_Rend ?k_Rend ?m_Pinit ?i_Pinit ?l_Pinit ?c_Pinit ?k_Pinit ?m_Pstr ?i_Pstr ?l_Pstr ?c_Pstr ?k_Pstr ?m_Peq ?i_Peq ?l_Peq ?c_Peq ?k_Peq ?m_Plen ?i_Plen ?l_Plen ?c_Plen ?k_Plen ?rd_read ?ga_read ?at_read ?rc_read ?l_Pread ?c_Pread ?k_Pread ?l_dT ?op ?hn ?ht ?ec_Pg ?hm_Pg ?ne_Pg ?ks_Pg ?kt_Pg ?kp_Pg ?ns_Pg ?nt_Pg ?lc_B ?al_B ?su_B ?es_B ?ex_B ?ty_B ?kc_B ?eg_B ?gg_B ?hd_B ?ec_B ?hm_B ?no_B ?iC_B ?tI_B ?l_eB ?c_eB ?lcd_eB ?xf_eB ?fi_eB ?lcc_eB ?lc_T ?al_T ?su_T ?es_T ?ex_T ?ty_T ?kc_T ?eg_T ?gg_T ?hd_T ?no_T ?iC_T ?tI_T ?l_eT ?c_eT ?lcd_eT ?xf_eT ?fi_eT ?lcc_eT ?lc_U ?al_U ?su_U ?es_U ?ex_U ?ty_U ?kc_U ?eg_U ?gg_U ?hd_U ?ec_U ?hm_U ?no_U ?iC_U ?tI_U ?l_eU ?c_eU ?lcd_eU ?xf_eU ?fi_eU ?lcc_eU ?bb ?ub ?uu ?tb ?tu ?tt ?kBL ?kBT ?kUL ?htop ?q_long ?q_shownN ?q_great ?q_mrows ?q_mjobs ?q_mwalks ?q_mdeep ?q_W ?l_W ?v_W ?q_H ?l_H ?v_H ?q_Bl ?l_Bl ?v_Bl ?q_F ?l_F ?kl_F ?lo_F ?v_F
    (case g_L => k_is)
    (case g_B => k_is)
    (case g_T => k_is)
    (case g_U => k_is)
    (case g_S => k_is)
    (case g_R => k_is)
    (case g_Pg => k_is)
    (case n_isinstance => k_is)
    (case n_len => k_is)
    (case n_str => k_is)
    (case n_int => k_is)
    (case n_all => k_is)
    (case n_any => k_is)
    (case n_zip => k_is)
    (case n_enumerate => k_is)
    (case n_list => k_is)
    (case n_tuple => k_is)
    (case n_sorted => k_is)
    (case n_set => k_is)
    (case n_max => k_is)
    (case n_min => k_is)
    (case n_range => k_is)
    (case n_abs => k_is)
    (case n_repr => k_is)
    (case n_dict => k_is)
    (case n_super => k_is)
    (case pg_S => k_is)
    (case hd_S => k_is)
    (case po_S => k_is)
    (case sa_S => k_is)
    (case mk_S => k_is)
    (case kc_S => k_is)
    (case at_S_word => k_is)
    (case at_S_name => k_is)
    (case at_S_how => k_is)
    (case at_S_many => k_is)
    (case at_S_body => k_is)
    (case at_S_mark => k_is)
    (case at_S_behind => k_is)
    (case pg_R => k_is)
    (case hd_R => k_is)
    (case po_R => k_is)
    (case sa_R => k_is)
    (case mk_R => k_is)
    (case kc_R => k_is)
    (case at_R_jobs => k_is)
    (case at_R_walks => k_is)
    (case at_R_gates => k_is)
    (case at_R_begun => k_is)
    (case at_R_deepest => k_is)
    (case at_R_around => k_is)
    (case pg_Pg => k_is)
    (case hd_Pg => k_is)
    (case po_Pg => k_is)
    (case sa_Pg => k_is)
    (case mk_Pg => k_is)
    (case kc_Pg => k_is)
    (case at_Pg_rows => k_is)
    (case at_Pg_job_steps => k_is)
    (case at_Pg_walk_steps => k_is)
    (case at_Pg_jobs => k_is)
    (case at_Pg_walks => k_is)
    (case at_Pg_gates => k_is)
    (case a_copy => k_is)
    (case l_copy => k_is)
    (case c_copy => k_is)
    (case k_copy => k_is)
    (case a_shown => k_is)
    (case l_shown => k_is)
    (case c_shown => k_is)
    (case k_shown => k_is)
    (case a_isname => k_is)
    (case l_isname => k_is)
    (case c_isname => k_is)
    (case k_isname => k_is)
    (case a_ishow => k_is)
    (case l_ishow => k_is)
    (case c_ishow => k_is)
    (case k_ishow => k_is)
    (case a_isfig => k_is)
    (case l_isfig => k_is)
    (case c_isfig => k_is)
    (case k_isfig => k_is)
    (case a_ofsort => k_is)
    (case l_ofsort => k_is)
    (case c_ofsort => k_is)
    (case k_ofsort => k_is)
    (case a_hasform => k_is)
    (case l_hasform => k_is)
    (case c_hasform => k_is)
    (case k_hasform => k_is)
    (case a_keeps => k_is)
    (case l_keeps => k_is)
    (case c_keeps => k_is)
    (case k_keeps => k_is)
    (case a_rows => k_is)
    (case l_rows => k_is)
    (case c_rows => k_is)
    (case k_rows => k_is)
    (case a_cnames => k_is)
    (case l_cnames => k_is)
    (case c_cnames => k_is)
    (case k_cnames => k_is)
    (case a_climits => k_is)
    (case l_climits => k_is)
    (case c_climits => k_is)
    (case k_climits => k_is)
    (case a_box => k_is)
    (case l_box => k_is)
    (case c_box => k_is)
    (case k_box => k_is)
    (case a_take => k_is)
    (case l_take => k_is)
    (case c_take => k_is)
    (case k_take => k_is)
    (case a_mixed => k_is)
    (case l_mixed => k_is)
    (case c_mixed => k_is)
    (case k_mixed => k_is)
    (case a_pick => k_is)
    (case l_pick => k_is)
    (case c_pick => k_is)
    (case k_pick => k_is)
    (case a_names => k_is)
    (case l_names => k_is)
    (case c_names => k_is)
    (case k_names => k_is)
    (case a_world => k_is)
    (case l_world => k_is)
    (case c_world => k_is)
    (case k_world => k_is)
    (case a_lrows => k_is)
    (case l_lrows => k_is)
    (case c_lrows => k_is)
    (case k_lrows => k_is)
    (case a_lrow => k_is)
    (case l_lrow => k_is)
    (case c_lrow => k_is)
    (case k_lrow => k_is)
    (case a_blk => k_is)
    (case l_blk => k_is)
    (case c_blk => k_is)
    (case k_blk => k_is)
    (case a_prog => k_is)
    (case l_prog => k_is)
    (case c_prog => k_is)
    (case k_prog => k_is)
    (case a_some => k_is)
    (case l_some => k_is)
    (case c_some => k_is)
    (case k_some => k_is)
    (case a_long => k_is)
    (case l_long => k_is)
    (case c_long => k_is)
    (case k_long => k_is)
    (case a_told => k_is)
    (case l_told => k_is)
    (case c_told => k_is)
    (case k_told => k_is)
    (case a_law => k_is)
    (case l_law => k_is)
    (case c_law => k_is)
    (case k_law => k_is)
    (case m_Sinit => k_is)
    (case i_Sinit => k_is)
    (case l_Sinit => k_is)
    (case c_Sinit => k_is)
    (case k_Sinit => k_is)
    (case m_Rinit => k_is)
    (case i_Rinit => k_is)
    (case l_Rinit => k_is)
    (case c_Rinit => k_is)
    (case k_Rinit => k_is)
    (case m_Rtake => k_is)
    (case i_Rtake => k_is)
    (case l_Rtake => k_is)
    (case c_Rtake => k_is)
    (case k_Rtake => k_is)
    (case m_Rdef => k_is)
    (case i_Rdef => k_is)
    (case l_Rdef => k_is)
    (case c_Rdef => k_is)
    (case k_Rdef => k_is)
    (case m_Radd => k_is)
    (case i_Radd => k_is)
    (case l_Radd => k_is)
    (case c_Radd => k_is)
    (case k_Radd => k_is)
    (case m_Rmay => k_is)
    (case i_Rmay => k_is)
    (case l_Rmay => k_is)
    (case c_Rmay => k_is)
    (case k_Rmay => k_is)
    (case m_Rrem => k_is)
    (case i_Rrem => k_is)
    (case l_Rrem => k_is)
    (case c_Rrem => k_is)
    (case k_Rrem => k_is)
    (case m_Rmark => k_is)
    (case i_Rmark => k_is)
    (case l_Rmark => k_is)
    (case c_Rmark => k_is)
    (case k_Rmark => k_is)
    (case m_Rend => k_is)
    (case i_Rend => k_is)
    (case l_Rend => k_is)
    (case c_Rend => k_is)
    (case k_Rend => k_is)
    (case m_Pinit => k_is)
    (case i_Pinit => k_is)
    (case l_Pinit => k_is)
    (case c_Pinit => k_is)
    (case k_Pinit => k_is)
    (case m_Pstr => k_is)
    (case i_Pstr => k_is)
    (case l_Pstr => k_is)
    (case c_Pstr => k_is)
    (case k_Pstr => k_is)
    (case m_Peq => k_is)
    (case i_Peq => k_is)
    (case l_Peq => k_is)
    (case c_Peq => k_is)
    (case k_Peq => k_is)
    (case m_Plen => k_is)
    (case i_Plen => k_is)
    (case l_Plen => k_is)
    (case c_Plen => k_is)
    (case k_Plen => k_is)
    (case rd_read => k_is)
    (case ga_read => k_is)
    (case at_read => k_is)
    (case rc_read => k_is)
    (case l_Pread => k_is)
    (case c_Pread => k_is)
    (case k_Pread => k_is)
    (case l_dT => k_is)
    (case op => k_is)
    (case hn => k_is)
    (case ht => k_is)
    (case ec_Pg => k_is)
    (case hm_Pg => k_is)
    (case ne_Pg => k_is)
    (case ks_Pg => first | k_is | kernel_rfl)
    (case kt_Pg => first | k_is | kernel_rfl)
    (case kp_Pg => first | k_is | kernel_rfl)
    (case ns_Pg => first | k_is | kernel_rfl)
    (case nt_Pg => first | k_is | kernel_rfl)
    (case lc_B => k_is)
    (case al_B => first | k_is | kernel_rfl)
    (case su_B => k_is)
    (case es_B => k_is)
    (case ex_B => k_is)
    (case ty_B => k_is)
    (case kc_B => k_is)
    (case eg_B => k_is)
    (case gg_B => k_is)
    (case hd_B => k_is)
    (case ec_B => k_is)
    (case hm_B => k_is)
    (case no_B => k_is)
    (case iC_B => k_is)
    (case tI_B => k_is)
    (case l_eB => k_is)
    (case c_eB => k_is)
    (case lcd_eB => k_is)
    (case xf_eB => rfl)
    (case fi_eB => first | rfl | decide +kernel)
    (case lcc_eB => k_is)
    (case lc_T => k_is)
    (case al_T => first | k_is | kernel_rfl)
    (case su_T => k_is)
    (case es_T => k_is)
    (case ex_T => k_is)
    (case ty_T => k_is)
    (case kc_T => k_is)
    (case eg_T => k_is)
    (case gg_T => k_is)
    (case hd_T => k_is)
    (case no_T => k_is)
    (case iC_T => k_is)
    (case tI_T => k_is)
    (case l_eT => k_is)
    (case c_eT => k_is)
    (case lcd_eT => k_is)
    (case xf_eT => rfl)
    (case fi_eT => first | rfl | decide +kernel)
    (case lcc_eT => k_is)
    (case lc_U => k_is)
    (case al_U => first | k_is | kernel_rfl)
    (case su_U => k_is)
    (case es_U => k_is)
    (case ex_U => k_is)
    (case ty_U => k_is)
    (case kc_U => k_is)
    (case eg_U => k_is)
    (case gg_U => k_is)
    (case hd_U => k_is)
    (case ec_U => k_is)
    (case hm_U => k_is)
    (case no_U => k_is)
    (case iC_U => k_is)
    (case tI_U => k_is)
    (case l_eU => k_is)
    (case c_eU => k_is)
    (case lcd_eU => k_is)
    (case xf_eU => rfl)
    (case fi_eU => first | rfl | decide +kernel)
    (case lcc_eU => k_is)
    (case bb => first | k_is | kernel_rfl)
    (case ub => first | k_is | kernel_rfl)
    (case uu => first | k_is | kernel_rfl)
    (case tb => first | k_is | kernel_rfl)
    (case tu => first | k_is | kernel_rfl)
    (case tt => first | k_is | kernel_rfl)
    (case kBL => first | k_is | kernel_rfl)
    (case kBT => first | k_is | kernel_rfl)
    (case kUL => first | k_is | kernel_rfl)
    (case htop => first | rfl | decide +kernel)
    (case q_long => k_is)
    (case q_shownN => k_is)
    (case q_great => k_is)
    (case q_mrows => k_is)
    (case q_mjobs => k_is)
    (case q_mwalks => k_is)
    (case q_mdeep => k_is)
    (case q_W => k_is)
    (case l_W => k_is)
    (case v_W => first | rfl | decide +kernel)
    (case q_H => k_is)
    (case l_H => k_is)
    (case v_H => first | rfl | decide +kernel)
    (case q_Bl => k_is)
    (case l_Bl => k_is)
    (case v_Bl => first | rfl | decide +kernel)
    (case q_F => k_is)
    (case l_F => k_is)
    (case kl_F => repeat' first | exact trivial | exact ⟨_, _, rfl, rfl⟩ | refine ⟨?_, ?_⟩)
    (case lo_F => first | rfl | decide +kernel)
    (case v_F => kernel_rfl)
