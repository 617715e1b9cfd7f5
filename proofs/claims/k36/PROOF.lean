import PyProof.Rows.All
import Wide.All
import OpenK.AllK
import Wide.FinOn
import HandS.ForMost
import HandS.IsInst
import HandS.Wide
import HandS.Walk
import HandS.Flow
import HandS.AnyAll
import HandS.EndTab
import HandS.Deep
import HandS.Style
import HandS.Conv
import HandS.DictTup
import HandS.SortInts
import KE.DataCmp
import KE.SortData
import KE.BitLaws
import KE.DataFind
import PyProof.ReprRoads
import PyProof.Rows.ReprOcc
import HandS.FStr
import HandS.StrMore
import HandS.Exc
import HandS.ExcInit
import HandS.ExcIs
import HandS.ExcField
import HandS.WordsExc
import HandS.ExcValue
import HandS.SetFor
import HandS.RevRange
import HandS.GenList
import HandS.DictComp
import PyProof.SumAny
import HandS.Star
import HandS.WideBits
import KE.KeyNested
import KE.KDictKeyed
import HandS.Strs
import HandS.CallLocal
import HandS.More
import HandS.RaiseFrom
import HandS.SuiteRaise
import HandS.TryOnly
import HandS.Small
import HandS.ExcInitHot
import KE.GoesRaise
import KE.KExcIs
import PySem.Challenge.RW_packwants_k36_contents_as_texts
set_option Elab.async false
set_option linter.all false
set_option maxRecDepth 100000
set_option maxHeartbeats 4000000
namespace Pk
open PySem PySem.Spec PyProof.Rows L2
def topS (i : Nat) : Stmt := PySem.Challenge.pw_packwants_k36_contents_as_texts.main.body.getD i (.Pass ⟨0, 0, 0, 0⟩)
/-! ### heaps and plain data -/
theorem same_upd {H : Hp} {p : Addr} {o : HO} (h : H p = none) : Same H (upd H p o) := fun b x e => by
  rw [upd_ne (ne_of_none e h)]
  exact e
/-- all but a is as it was -/
def SameBut (a : Addr) (H H' : Hp) : Prop := ∀ b o, b ≠ a → H b = some o → H' b = some o
theorem SameBut.of {a : Addr} {H H' : Hp} (h : Same H H') : SameBut a H H' := fun b o _ e => h b o e
theorem SameBut.refl (a : Addr) (H : Hp) : SameBut a H H := fun _ _ _ e => e
theorem SameBut.trans {a : Addr} {H H1 H2 : Hp} (h : SameBut a H H1) (k : SameBut a H1 H2) : SameBut a H H2 := fun b o n e => k b o n (h b o n e)
theorem SameBut.upd {a : Addr} {H : Hp} {o : HO} : SameBut a H (upd H a o) := fun b x n e => by
  rw [upd_ne n]
  exact e
theorem SameBut.new {a p : Addr} {H H' : Hp} {o : HO} (h : SameBut a H H') (hp : H p = none) : SameBut a H (L2.upd H' p o) := fun b x n e => by
  rw [upd_ne (ne_of_none e hp)]
  exact h b x n e
/-- what was not there at the start may change -/
theorem sm_new {p : Addr} {H H' : Hp} {o : HO} (h : Same H H') (hp : H p = none) : Same H (L2.upd H' p o) := fun b x e => by
  rw [upd_ne (ne_of_none e hp)]
  exact h b x e
theorem SameBut.free {a p : Addr} {H H' : Hp} (h : SameBut a H H') (n : H' p = none) (ha : H' a ≠ none) : H p = none := by
  cases q : H p with
  | none => rfl
  | some o =>
    by_cases e : p = a
    · subst e
      exact absurd n ha
    · rw [h p o e q] at n
      cases n
/-- a list of ints -/
abbrev LI (ns : List Int) : HO := .lst (ns.map V.int)
theorem dpAll_ints {K : PySem.W.Frag} {H : Hp} : ∀ ns : List Int, DpAll K H (ns.map V.int) (ns.map PyData.int)
  | [] => .nil
  | n :: r => .cons (.int n) (dpAll_ints r)
theorem dp_ints {K : PySem.W.Frag} {H : Hp} {a : Addr} {ns : List Int} (h : SqL K H a (ns.map V.int)) : Dp K H (.ref a) (.list (ns.map PyData.int)) := .lst h (dpAll_ints ns)
theorem lay_ints : ∀ ns : List Int, PyData.canLayAll0 (ns.map PyData.int) = true
  | [] => by simp [PyData.canLayAll0]
  | n :: r => by
    have ih := lay_ints r
    simp [PyData.canLayAll0, PyData.canLay0, ih]
theorem depth_ints : ∀ ns : List Int, PyData.depthAll (ns.map PyData.int) = 0
  | [] => by simp [PyData.depthAll]
  | n :: r => by
    have ih := depth_ints r
    simp [PyData.depthAll, PyData.depth, ih]
theorem shaped_ints (ns : List Int) : SeqAt.shaped (.list (ns.map PyData.int)) = true := by
  unfold SeqAt.shaped
  have h1 : PyData.canLay0 (.list (ns.map PyData.int)) = true := by
    simp only [PyData.canLay0]
    exact lay_ints ns
  have h2 : PyData.depth (.list (ns.map PyData.int)) ≤ 64 := by
    simp only [PyData.depth]
    rw [depth_ints]
    omega
  rw [h1, decide_eq_true h2]
  rfl
theorem eqvAll_ints : ∀ ns ms : List Int, PyData.eqvAll (ns.map PyData.int) (ms.map PyData.int) = decide (ns = ms)
  | [], [] => by simp [PyData.eqvAll]
  | [], _ :: _ => by simp [PyData.eqvAll]
  | _ :: _, [] => by simp [PyData.eqvAll]
  | n :: r, m :: q => by
    have ih := eqvAll_ints r q
    simp only [List.map_cons, PyData.eqvAll, PyData.eqv, ih]
    by_cases h1 : n = m <;> by_cases h2 : r = q <;> simp [h1, h2]
theorem eqv_ints (ns ms : List Int) : PyData.eqv (.list (ns.map PyData.int)) (.list (ms.map PyData.int)) = decide (ns = ms) := by
  simp only [PyData.eqv]
  exact eqvAll_ints ns ms
theorem li_app (ls : List Int) (n : Int) : HO.lst (ls.map V.int ++ [.int n]) = LI (ls ++ [n]) := by
  show _ = HO.lst ((ls ++ [n]).map V.int)
  rw [List.map_append]
  rfl
theorem li_set (ls : List Int) (j : Nat) (n : Int) : HO.lst ((ls.map V.int).set j (.int n)) = LI (ls.set j n) := by
  show _ = HO.lst ((ls.set j n).map V.int)
  rw [List.map_set]
theorem at_app {H : Hp} {a : Addr} {ls : List Int} {n : Int} : upd H a (.lst (ls.map V.int ++ [.int n])) a = some (LI (ls ++ [n])) := by rw [upd_same, li_app]
theorem at_set {H : Hp} {a : Addr} {ls : List Int} {j : Nat} {n : Int} : upd H a (.lst ((ls.map V.int).set j (.int n))) a = some (LI (ls.set j n)) := by rw [upd_same, li_set]
theorem szL {n : Nat} (h : n ≤ 100000) : n ≤ sizeLine := Nat.le_trans h (by decide)
theorem szL' {n : Nat} (h : n ≤ 100000) : n < sizeLine := Nat.lt_of_le_of_lt h (by decide)
theorem get_ints {ns : List Int} {i : Nat} {n : Int} (h : ns[i]? = some n) : (ns.map V.int)[i]? = some (.int n) := by
  rw [List.getElem?_map, h]
  rfl
theorem getD_ints {ns : List Int} {i : Nat} (h : i < ns.length) : (ns.map V.int)[i]? = some (.int ns[i]) := get_ints (List.getElem?_eq_getElem h)
theorem of_get_ints {ns : List Int} {i : Nat} {v : V} (h : (ns.map V.int)[i]? = some v) : ∃ n, ns[i]? = some n ∧ v = .int n := by
  rw [List.getElem?_map] at h
  cases e : ns[i]? with
  | none => rw [e] at h; cases h
  | some n => rw [e] at h; exact ⟨n, rfl, (Option.some.inj h).symm⟩
/-- i % n as a place -/
theorem mod_at {i : Int} {n : Nat} (h : 0 < n) : ∃ j : Nat, j < n ∧ i % (n : Int) = (j : Int) := by
  have h1 : 0 ≤ i % (n : Int) := Int.emod_nonneg i (by omega)
  have h2 : i % (n : Int) < (n : Int) := Int.emod_lt_of_pos i (by omega)
  exact ⟨(i % (n : Int)).toNat, by omega, by omega⟩
theorem ixN_nat {n j : Nat} (h : j < n) : ixN n (j : Int) = some j := by
  unfold ixN
  rw [if_pos (by omega), if_pos (by omega), Int.toNat_natCast]
theorem take_succ_at {α : Type} {l : List α} {i : Nat} {x : α} (h : l[i]? = some x) : l.take (i + 1) = l.take i ++ [x] := by
  rw [List.take_add_one, h]
  rfl
/-- a def of the top: where it stands -/
structure Def (K : PySem.W.Frag) (mg : Str → Option Value) (x : Str) (st : Stmt) (ps : List Str) (f : Addr) (fd : FuncData) : Prop where
  F : Fun K x x st f fd
  g : mg x = some (.ref f)
  b : Binds K fd ps []
/-! ### rules at a written K (for a comprehension's block) -/
section
variable {X : Cx} {K : PySem.W.Frag}
theorem ix_listK (h : X.K = K) : IxR X (rIxL K) := by subst h; exact ix_list
theorem ix_tupK (h : X.K = K) : IxR X (rIxT K) := by subst h; exact ix_tup
theorem call_len_seqK (h : X.K = K) : CallR X (.builtin "len") (fun xs H Q => ∃ p ys, xs = [.ref p] ∧ (SqL K H p ys ∨ SqT K H p ys) ∧ Q (.int ys.length) H) := by subst h; exact call_len_seq
theorem op_eqDK (h : X.K = K) (hu : X.A.units + 64 < cLine) : OpR X (compareOp .Eq) (rEqD K) := by subst h; exact op_eqD hu
theorem op_neDK (h : X.K = K) (hu : X.A.units + 64 < cLine) : OpR X (compareOp .NotEq) (rNeD K) := by subst h; exact op_neD hu
theorem cr_maxK (h : X.K = K) (hc : X.calm = true) : CallR X (.builtin "max") (rMax K) := by subst h; exact cr_max hc
theorem cr_sumK (h : X.K = K) (hc : X.calm = true) : CallR X (.builtin "sum") (rSum K) := by subst h; exact cr_sum hc
theorem call_list_ofK (h : X.K = K) : CallR X (.type "list") (fun xs H Q => ∃ p ys, xs = [.ref p] ∧ (SqL K H p ys ∨ SqT K H p ys) ∧ ∀ l, H l = none → Q (.ref l) (upd H l (.lst ys))) := by subst h; exact call_list_of
theorem pi_listK {tg l : Expr} {tl : TE} (h : X.K = K) (hl : PE X l tl) : PI X tg l (iList K tl) := by subst h; exact pi_list hl
theorem pi_tupK {tg l : Expr} {tl : TE} (h : X.K = K) (hl : PE X l tl) : PI X tg l (iTup K tl) := by subst h; exact pi_tup hl
theorem pg_tupK {es : List Expr} {k : Nat} {t : TGs} {n : Nat} {pos : Pos} (hK : X.K = K) (hc : X.calm = true) (h : PGs X es t)
    (hn : (assignEach es X.env).length = n := by rfl) (hst : (assignEach es X.env).findIdx? (·.1) = none := by rfl) : PG X (.Tuple es k pos) (gTup K n t) := by subst hK; exact pg_tup hc h hn hst
end
/-! ### a statement whose ends are joined by what holds behind it -/
def tCutI (t u : TS) : TS := fun D σ H => ∃ I : L2.St → Hp → Prop, t { D with nx := I } σ H ∧ ∀ σ' H', I σ' H' → u D σ' H'
theorem pss_cutI {X : Cx} {st : Stmt} {rest : List Stmt} {t u : TS} (h1 : PS X st t) (h2 : PSs X rest u) : PSs X (st :: rest) (tCutI t u) := by
  refine ⟨fun pins s σ H D I h => ?_⟩
  obtain ⟨J, h, hJ⟩ := h
  refine wpAny_execs_cons (thn (h1.run pins s σ H { D with nx := J } I h) fun f s1 q => ?_)
  cases f with
  | next =>
    obtain ⟨σ', H', I', q⟩ := q
    exact h2.run pins s1 σ' H' D I' (hJ σ' H' q)
  | ret v => exact q
  | brk => exact q
  | cont => exact q
/-- data: lists of lists of ints -/
abbrev dRows (rs : List (List Int)) : PyData := .list (rs.map fun r => .list (r.map PyData.int))
theorem lay_rows : ∀ rs : List (List Int), PyData.canLayAll0 (rs.map fun r => .list (r.map PyData.int)) = true
  | [] => by simp [PyData.canLayAll0]
  | r :: q => by
    have ih := lay_rows q
    have h1 := lay_ints r
    simp [PyData.canLayAll0, PyData.canLay0, ih, h1]
theorem depth_rows : ∀ rs : List (List Int), PyData.depthAll (rs.map fun r => .list (r.map PyData.int)) ≤ 1
  | [] => by simp [PyData.depthAll]
  | r :: q => by
    have ih := depth_rows q
    have h1 := depth_ints r
    simp only [List.map_cons, PyData.depthAll, PyData.depth]
    omega
theorem shaped_rows (rs : List (List Int)) : SeqAt.shaped (dRows rs) = true := by
  unfold SeqAt.shaped
  have h1 : PyData.canLay0 (dRows rs) = true := by
    simp only [PyData.canLay0]
    exact lay_rows rs
  have h2 : PyData.depth (dRows rs) ≤ 64 := by
    have := depth_rows rs
    simp only [PyData.depth]
    omega
  rw [h1, decide_eq_true h2]
  rfl
theorem eqv_self {d : PyData} (h : SeqAt.shaped d = true) : PyData.eqv d d = true := SeqAt.eqv_refl d (SeqAt.canLay_of_shaped h)
/-- the built-in names that the top leaves alone, and its constants -/
structure Names (mg : Str → Option Value) : Prop where
  len : mg "len" = none
  range : mg "range" = none
  max : mg "max" = none
  list : mg "list" = none
  isinstance : mg "isinstance" = none
  int : mg "int" = none
  bool : mg "bool" = none
  enumerate : mg "enumerate" = none
  all : mg "all" = none
  zip : mg "zip" = none
  reversed : mg "reversed" = none
  sum : mg "sum" = none
  sorted : mg "sorted" = none
  tuple : mg "tuple" = none
  any : mg "any" = none
  min : mg "min" = none
  str : mg "str" = none
  abs : mg "abs" = none
  set : mg "set" = none
  c_FIGURES : ∃ t, mg "FIGURES" = some (.str "0123456789" t)
  c_MOST_LESSER : ∃ t, mg "MOST_LESSER" = some (.int 400 t)
  c_THING_FIGURES : ∃ t, mg "THING_FIGURES" = some (.int 1 t)
/-! ### generator expressions whose element is quiet: the def's code table may grow, all else stands -/
/-- what is no bare record is not the table -/
theorem tab_ne {X : Cx} {pins : List (Addr × Obj)} {σ : L2.St} {H1 : Hp} {s1 : Shared} {P : Addr} (I : Inv X pins σ H1 s1) (h : GxR.TabG H1 P) {b : Addr} {o : Obj} (e : s1.heap.get? b = some o) (c : o.cls ≠ .none ∨ ∀ vs, o.data ≠ .fields vs) : b ≠ P := by
  rintro rfl
  obtain ⟨ps, isTab, _⟩ := h
  have q : s1.heap.get? b = some { cls := .none, data := .fields ps } := I.hok b _ isTab
  cases q.symm.trans e
  exact c.elim (fun z => z rfl) (fun z => z _ rfl)
/-- from h2 to h3 the table at P has grown by some entries, and all else stands -/
structure Longer (P : Addr) (h2 h3 : Heap) (ps more : Array Value) : Prop where
  rest : Heap.ExtBut P h2 h3
  size : h2.objs.size ≤ h3.objs.size
  table : h3.get? P = some { cls := .none, data := .fields (ps ++ more) }
  good : TriplesOk (ps ++ more).toList
/-- the expression's own scope: the walked thing at «.0», its names, and captured ones that are cells of the def; for two names -/
structure GenS2 (sc scope : Scope) (xa xb : Str) : Prop where
  kind : scope.kind = .function
  co : scope.isCoroutine = false
  cell : ∀ y ∈ scope.names, y.2 ≠ .cell
  dot : scope.names.lookup (".0" : Str) = some NameKind.local
  la : scope.names.lookup xa = some .local
  lb : scope.names.lookup xb = some .local
  ne : xa ≠ xb
  free : ∀ y ∈ scope.names, y.2 = .free → sc.names.lookup y.1 = some .cell
/-- for one -/
structure GenS1 (sc scope : Scope) (x : Str) : Prop where
  kind : scope.kind = .function
  co : scope.isCoroutine = false
  cell : ∀ y ∈ scope.names, y.2 ≠ .cell
  dot : scope.names.lookup (".0" : Str) = some NameKind.local
  la : scope.names.lookup x = some .local
  free : ∀ y ∈ scope.names, y.2 = .free → sc.names.lookup y.1 = some .cell
/-- what is said of the thing that is walked: it was made in s1, and stands in t -/
structure Walkee (X : Cx) (pins : List (Addr × Obj)) (σ : L2.St) (H1 : Hp) (P : Addr) (fp wr : List Addr) (s1 t : Shared) : Prop where
  inv : Inv X pins σ H1 s1
  tab : GxR.TabG H1 P
  same : ∃ h n, t = { s1 with heap := h, toks := n }
  keep : ∀ b o, s1.heap.get? b = some o → t.heap.get? b = some o
  size : s1.heap.objs.size ≤ t.heap.objs.size
  low : ∀ b ∈ fp, b < t.heap.objs.size ∧ b ≠ P
  new : ∀ b ∈ wr, s1.heap.objs.size ≤ b
/-- the generator g, ready to be walked, in the state s5; F: what each turn hands out -/
def Walked (X : Cx) (pins : List (Addr × Obj)) (σ : L2.St) (H1 : Hp) (P : Addr) (n : Nat) (F : Nat → Value → Prop) (g : Addr) (s5 : Shared) : Prop :=
  ∃ (fp wr : List Addr) (G : Array GenState → Array GenState → Prop) (F' : Nat → Value → Prop) (St : Nat → Shared → Prop),
    WalksS X.prog X.w X.A.in1 g fp wr G n F' St ∧ St 0 s5 ∧ (∀ b ∈ fp, b < s5.heap.objs.size) ∧ (∀ i v, F' i v → F i v) ∧ ∀ s', Moved wr G s5 s' → ∃ H2, GxR.Tabbed P H1 H2 ∧ Inv X pins σ H2 s'
/-- what the element may lean on: the frame cenv, the depth, and a heap in which all that stood in s1 stands but for the table -/
structure Turned (X : Cx) (P : Addr) (sc : Scope) (s1 : Shared) (cenv : Env) (A' : Around) (u : Shared) : Prop where
  own : cenv.scope = sc
  cells : cenv.cells = cloFrom X.env.cells sc.names []
  glob : cenv.globals = mainGlobals
  blt : cenv.builtins = builtinsNs
  calm : A'.handled = none
  deep : A'.depth ≤ X.A.depth + 1
  units : A'.units ≤ X.A.units + 8
  still : ∀ b o, b ≠ P → s1.heap.get? b = some o → u.heap.get? b = some o
section
variable {X : Cx} {pins : List (Addr × Obj)} {σ : L2.St} {H1 : Hp} {s1 t : Shared} {c P : Addr} {fp wr : List Addr} {h2 h3 : Heap} {ps more : Array Value}
/-- the code of the expression is looked up, or laid: then the table is longer -/
theorem tab_opens {gpos : Pos} {q : Str} {scope : Scope} {t2 : Nat} {R : Value → Addr → Shared → Prop} (TB : GxR.TabB X.base X.mg c P) (code : X.env.code = .ref c) (I : Inv X pins σ H1 s1) (isTab : H1 P = some (.tbl ps)) (good : TriplesOk ps.toList)
    (keep : ∀ b o, s1.heap.get? b = some o → h2.get? b = some o) (h : ∀ cv h3 n more, Longer P h2 h3 ps more → R cv builtinsNs { s1 with heap := h3, toks := n }) :
    wpAny (model X.prog X.w) X.A (genexprCode X.env gpos q scope) (fun cv t => wpAny (model X.prog X.w) X.A (builtinsFor X.env.globals X.env.builtins) (fun bi u => R cv bi u) X.xe t) X.xe { s1 with heap := h2, toks := t2 } := by
  have table : h2.get? P = some { cls := .none, data := .fields ps } := keep P _ (I.hok P _ isTab)
  have head : PySem.W.CodeHd h2 c P := TB.code.keeps fun b o e => keep b o (I.bk b o e)
  have go : ∀ cv h3 n more, Longer P h2 h3 ps more → wpAny (model X.prog X.w) X.A (builtinsFor X.env.globals X.env.builtins) (fun bi u => R cv bi u) X.xe { s1 with heap := h3, toks := n } := by
    intro cv h3 n more L
    obtain ⟨at_, ob, given, away, _, notTab, inBase, cls, dict, plain⟩ := TB.bm
    have globals : h3.Ns X.env.globals X.mg := I.ok.glob ▸ ((I.mod.glob.keeps I.bk).keeps keep).extBut L.rest TB.gP
    exact wpAny_builtinsFor globals given away (L.rest _ _ notTab (keep _ _ (I.bk _ _ inBase))) cls dict plain (h cv h3 n more L)
  cases found : codeAmong gpos ps.toList
  · refine wpAny_genexprCodeX code (head.code table good) (head.tab table) found fun c' h' n rest below above isCode _ isTable _ => go _ h' n _ ⟨rest, Nat.le_trans below (Nat.le_of_lt above), isTable.2, ?_⟩
    obtain ⟨_, _, _, _, _, _, _, _, _, _, _, _, _, _, _, _, _, _, _, triples, _⟩ := isCode
    exact triples
  · refine wpAny_genexprCode_hit code (head.code table good) found (go _ h2 t2 #[] ⟨Heap.ExtBut.refl _ _, Nat.le_refl _, ?_, ?_⟩)
    · rw [Array.append_empty]
      exact table
    · rw [Array.append_empty]
      exact good
/-- when it has been walked: what was held is held, but for the longer table -/
theorem tab_closes {h5 : Heap} {n : Nat} {gs : GenState} {j : Nat} {wr' : List Addr} {s' : Shared} (I : Inv X pins σ H1 s1) (isTab : H1 P = some (.tbl ps)) (keep : ∀ b o, s1.heap.get? b = some o → h2.get? b = some o) (L : Longer P h2 h3 ps more)
    (bare : gs.bare = true) (on : ∀ b o, h3.get? b = some o → h5.get? b = some o) (new : ∀ b ∈ wr', s1.heap.objs.size ≤ b) (mv : Moved wr' (GenOnlyQ j) { s1 with heap := h5, gens := s1.gens.push gs, toks := n } s') : ∃ H2, GxR.Tabbed P H1 H2 ∧ Inv X pins σ H2 s' := by
  have old : ∀ {b o}, s1.heap.get? b = some o → b ∉ wr' := fun e z => Nat.lt_irrefl _ (Nat.lt_of_lt_of_le (Heap.lt_size e) (new _ z))
  have J := GxR.inv_tab (h' := s'.heap) (g' := s'.gens) (d' := s'.drawn) (t' := s'.toks) I isTab (fun b o far e => mv.heap b o (old e) (on b o (L.rest b o far (keep b o e)))) (mv.heap P _ (old (I.hok P _ isTab)) (on P _ L.table)) (AllBare.movedS (I.bare.push bare) mv)
  exact ⟨upd H1 P (.tbl (ps ++ more)), ⟨⟨_, upd_same, L.good⟩, fun _ far => upd_ne far⟩, (GxR.sh_eta s1 s' mv.os) ▸ J⟩
theorem Walkee.statics (K : Walkee X pins σ H1 P fp wr s1 t) : cStatics ≠ P ∧ cStatics ∉ wr := by
  obtain ⟨_, names, _⟩ := K.inv.nolimit
  constructor
  · rintro rfl
    obtain ⟨ps, isTab, _⟩ := K.tab
    obtain ⟨ob, _, _, there, isNs, _⟩ := names
    have q : s1.heap.get? cStatics = some { cls := .none, data := .fields ps } := K.inv.hok _ _ isTab
    cases q.symm.trans there
    cases isNs
  · exact fun z => Nat.lt_irrefl _ (Nat.lt_of_lt_of_le names.lt (K.new _ z))
/-- all that stood in s1 stands where an element is reckoned -/
theorem Walkee.turned {scope : Scope} {code : Value} {href : Heap} {A' : Around} {u : Shared} (K : Walkee X pins σ H1 P fp wr s1 t) (L : Longer P t.heap h3 ps more) (on : ∀ b o, h3.get? b = some o → href.get? b = some o) (calm : A'.handled = none) (deep : A'.depth ≤ X.A.depth + 1) (units : A'.units ≤ X.A.units + 8)
    (still : ∀ b ∈ List.range h3.objs.size, b ∉ wr → ∀ o, href.get? b = some o → u.heap.get? b = some o) : Turned X P scope s1 (genEnv scope (cloFrom X.env.cells scope.names []) h3.objs.size code builtinsNs X.env) A' u where
  own := rfl
  cells := rfl
  glob := K.inv.ok.glob
  blt := rfl
  calm := calm
  deep := deep
  units := units
  still := fun b o far e =>
    have e3 := L.rest b o far (K.keep b o e)
    still b (List.mem_range.mpr (Heap.lt_size e3)) (fun z => Nat.lt_irrefl _ (Nat.lt_of_lt_of_le (Heap.lt_size e) (K.new b z))) o (on b o e3)
/-- the made generator is ready -/
theorem Walkee.ready {n : Nat} {F : Nat → Value → Prop} {g : Addr} {h5 : Heap} {n3 n5 : Nat} {gs : GenState} {j : Nat} {wr' fp' : List Addr} {St : Nat → Shared → Prop} (K : Walkee X pins σ H1 P fp wr s1 t) (isTab : H1 P = some (.tbl ps)) (L : Longer P t.heap h3 ps more)
    (bare : gs.bare = true) (above : h3.objs.size < g) (size : h5.objs.size = g + 1) (on : ∀ b o, h3.get? b = some o → h5.get? b = some o) (hf : ∀ b ∈ fp', b = g ∨ b = h3.objs.size ∨ b < h3.objs.size) (hw : ∀ b ∈ wr', b = h3.objs.size ∨ b ∈ wr)
    (W : WalksS X.prog X.w X.A.in4 g fp' wr' (GenOnlyQ j) (passing (fun _ => true) n 0).length (fun j y => ∃ i, (passing (fun _ => true) n 0)[j]? = some i ∧ F i y) St) (st : St 0 { ({ s1 with heap := h3, toks := n3 } : Shared) with gens := s1.gens.push gs, toks := n5, heap := h5 }) :
    Walked X pins σ H1 P n F g { ({ s1 with heap := h3, toks := n3 } : Shared) with gens := s1.gens.push gs, toks := n5, heap := h5 } := by
  rw [GxR.passing_true, List.length_range] at W
  refine ⟨_, _, _, _, _, W.in4_1, st, fun b hb => ?_, fun j y hy => ?_, fun s' mv => tab_closes K.inv isTab K.keep L bare on (fun b hb => ?_) mv⟩
  · show b < h5.objs.size
    rw [size]
    rcases hf b hb with rfl | rfl | z
    · exact Nat.lt_succ_self _
    · exact Nat.lt_succ_of_lt above
    · exact Nat.lt_succ_of_lt (Nat.lt_trans z above)
  · obtain ⟨i, at_, q⟩ := hy
    obtain ⟨_, e⟩ := List.getElem?_eq_some_iff.mp at_
    rw [List.getElem_range] at e
    exact e ▸ q
  · rcases hw b hb with rfl | z
    · exact Nat.le_trans K.size L.size
    · exact K.new b z
end
section
variable {X : Cx} {pins : List (Addr × Obj)} {σ : L2.St} {H : Hp} {s : Shared} {c P : Addr} {k : Nat} {Q' : Value → Shared → Prop}
/-- (element for a, b in iter): what is walked hands out pairs; the element gives what F says -/
theorem gen_pairs {elt iter : Expr} {xa xb : Str} {pa pb pt gpos : Pos} {kt : Nat} {scope : Scope} (hr : Room k X.A) (TB : GxR.TabB X.base X.mg c P) (hcode : X.env.code = .ref c) (S : GenS2 X.env.scope scope xa xb) (hs : ∀ v, genFold iter X.env v = pure v) (I : Inv X pins σ H s)
    (h : wpAny (model X.prog X.w) X.A (eval iter X.env) (fun xv t => wpAny (model X.prog X.w) X.A (pyIter xv) (fun it t2 => ∃ (Iad : Addr) (fp wr : List Addr) (n : Nat) (Pt : Nat → Array Value → Prop) (St : Nat → Heap → Prop) (Mid : Nat → Addr → Heap → Prop) (F : Nat → Value → Prop) (q : List (Addr × Obj)) (σ1 : L2.St) (H1 : Hp) (s1 : Shared),
      it = .ref Iad ∧ Walkee X q σ1 H1 P fp wr s1 t2 ∧ (∀ A' : Around, A'.handled = none → WalksU X.prog X.w A' Iad fp wr n Pt St Mid) ∧ (∀ i vals, Pt i vals → ∃ va vb, vals = #[va, vb]) ∧ St 0 t2.heap ∧
      (∀ (cenv : Env) (A' : Around) (E' : Value → Shared → Prop) (i : Nat) (va vb : Value) (u : Shared) (m : Str → Option Value), Turned X P scope s1 cenv A' u → Pt i #[va, vb] → u.heap.Ns cenv.locals m → m xa = some va → m xb = some vb →
        wpAny (model X.prog X.w) A' (eval elt cenv) (fun y u' => F i y ∧ Keeps u u') E' u) ∧
      ∀ g s5, Walked X q σ1 H1 P n F g s5 → Q' (.ref g) s5) X.xe t) X.xe s) :
    wpAny (model X.prog X.w) X.A (eval (.GeneratorExp elt [⟨.Tuple [.Name xa pa, .Name xb pb] kt pt, iter, [], 0⟩] scope gpos) X.env) Q' X.xe s := by
  have room := hr.dp
  refine wpAny_GeneratorExp_walksQTD hr.hd S.co (closure_ok fun y hy e => I.ok.has y.1 (.inl (S.free y hy e))) S.cell S.dot S.la S.lb S.ne S.kind (by omega) (wpAny_mono h (fun xv t h => wpAny_mono h (fun it t2 h => ?_) fun _ _ e => e) fun _ _ e => e) hs
  obtain ⟨Iad, fp, wr, n, Pt, St, Mid, F, q, σ1, H1, s1, rfl, K, W, two, st, turn, out⟩ := h
  obtain ⟨ps, isTab, good⟩ := K.tab
  obtain ⟨h2, n2, rfl⟩ := K.same
  have lim : h2.NoLimit := K.inv.nolimit.keeps K.keep
  refine ⟨lim, tab_opens TB hcode K.inv isTab good K.keep fun cv h3 n3 more L => ⟨Iad, fp, wr, n, Pt, St, Mid, fun _ => true, F, rfl, W, two, (W X.A hr.hd).frame _ _ _ st fun b hb o e => L.rest b o (K.low b hb).2 e, fun b hb => Nat.lt_of_lt_of_le (K.low b hb).1 L.size, lim.extBut L.rest K.statics.1, K.statics.2, fun href on => ⟨?_, ?_⟩, ?_⟩⟩
  · intro A' E' i va vb u m _ _ _ _ _ _ _ _
    exact wpAny_pure ⟨rfl, GxR.keeps_refl _⟩
  · intro A' E' i va vb u m calm deep units at_ _ ns ma mb still
    exact turn _ A' E' i va vb u m (K.turned L on calm deep units still) at_ ns ma mb
  · intro g h5 n5 gs bare above size on W5 st5
    refine out g _ (K.ready isTab L bare above size on (fun b hb => ?_) (fun b hb => List.mem_cons.mp hb) W5 st5)
    exact (List.mem_cons.mp hb).imp_right fun z => (List.mem_cons.mp z).imp_right List.mem_range.mp
/-- (element for a in iter) -/
theorem gen_ones {elt iter : Expr} {x : Str} {px gpos : Pos} {scope : Scope} (hr : Room k X.A) (TB : GxR.TabB X.base X.mg c P) (hcode : X.env.code = .ref c) (S : GenS1 X.env.scope scope x) (hs : ∀ v, genFold iter X.env v = pure v) (I : Inv X pins σ H s)
    (h : wpAny (model X.prog X.w) X.A (eval iter X.env) (fun xv t => wpAny (model X.prog X.w) X.A (pyIter xv) (fun it t2 => ∃ (Iad : Addr) (fp wr : List Addr) (n : Nat) (Pt : Nat → Value → Prop) (St : Nat → Heap → Prop) (F : Nat → Value → Prop) (q : List (Addr × Obj)) (σ1 : L2.St) (H1 : Hp) (s1 : Shared),
      it = .ref Iad ∧ Walkee X q σ1 H1 P fp wr s1 t2 ∧ (∀ A' : Around, A'.handled = none → Walks X.prog X.w A' Iad fp wr n Pt St) ∧ St 0 t2.heap ∧
      (∀ (cenv : Env) (A' : Around) (E' : Value → Shared → Prop) (i : Nat) (va : Value) (u : Shared) (m : Str → Option Value), Turned X P scope s1 cenv A' u → Pt i va → u.heap.Ns cenv.locals m → m x = some va →
        wpAny (model X.prog X.w) A' (eval elt cenv) (fun y u' => F i y ∧ Keeps u u') E' u) ∧
      ∀ g s5, Walked X q σ1 H1 P n F g s5 → Q' (.ref g) s5) X.xe t) X.xe s) :
    wpAny (model X.prog X.w) X.A (eval (.GeneratorExp elt [⟨.Name x px, iter, [], 0⟩] scope gpos) X.env) Q' X.xe s := by
  have room := hr.dp
  refine wpAny_GeneratorExp_walksQD hr.hd S.co (closure_ok fun y hy e => I.ok.has y.1 (.inl (S.free y hy e))) S.cell S.dot S.la S.kind (by omega) (wpAny_mono h (fun xv t h => wpAny_mono h (fun it t2 h => ?_) fun _ _ e => e) fun _ _ e => e) hs
  obtain ⟨Iad, fp, wr, n, Pt, St, F, q, σ1, H1, s1, rfl, K, W, st, turn, out⟩ := h
  obtain ⟨ps, isTab, good⟩ := K.tab
  obtain ⟨h2, n2, rfl⟩ := K.same
  have lim : h2.NoLimit := K.inv.nolimit.keeps K.keep
  refine ⟨lim, tab_opens TB hcode K.inv isTab good K.keep fun cv h3 n3 more L => ⟨Iad, fp, wr, n, Pt, St, fun _ => true, F, rfl, W, (W X.A hr.hd).frame _ _ _ st fun b hb o e => L.rest b o (K.low b hb).2 e, fun b hb => Nat.lt_of_lt_of_le (K.low b hb).1 L.size, lim.extBut L.rest K.statics.1, K.statics.2, fun href on => ⟨?_, ?_⟩, ?_⟩⟩
  · intro A' E' i va u m _ _ _ _ _ _ _
    exact wpAny_pure ⟨rfl, GxR.keeps_refl _⟩
  · intro A' E' i va u m calm deep units at_ _ ns ma still
    exact turn _ A' E' i va u m (K.turned L on calm deep units still) at_ ns ma
  · intro g h5 n5 gs bare above size on W5 st5
    refine out g _ (K.ready isTab L bare above size on (fun b hb => ?_) (fun b hb => List.mem_cons.mp hb) W5 st5)
    exact (List.mem_cons.mp hb).imp_right fun z => (List.mem_cons.mp z).imp_right List.mem_range.mp
/-- a built-in function of a generator expression alone -/
theorem call_gen {b : Str} {f : String} {ge : Expr} {p pos : Pos} {R : Value → Shared → Prop} (hg : Gl X b) (hm : X.mg b = none) (hb : bootBuiltins b = some (.builtin f)) (he : starEach [ge] X.env = (false, eval ge X.env) :: starEach [] X.env) (I : Inv X pins σ H s)
    (h : wpAny (model X.prog X.w) X.A (eval ge X.env) (fun v t => wpAny (model X.prog X.w) X.A (call (.builtin f) [v]) R X.xe t) X.xe s) (hd : (b == ("__debug__" : Str)) = false := by decide) (hn : b ≠ "__name__" := by decide) :
    wpAny (model X.prog X.w) X.A (eval (.Call (.Name b p) [ge] [] pos) X.env) R X.xe s := by
  refine wpAny_Call_Name_kw (ld_blt I hg hm hb (PyProof.Rows.callWith_builtin1 ?_ he (by rfl)) hn hd)
  rw [he]
  exact Calls.spliced_cons (wpAny_mono h (fun v t h => Calls.spliced_nil h) fun _ _ e => e)
theorem truth_of {A : Around} {F' : Nat → Value → Prop} {pb : Nat → Bool} (h : ∀ i v, F' i v → v = .bool (pb i)) : TruthOf X.prog X.w A F' pb := by
  intro i v t Q E at_ q
  cases h i v at_
  exact wpAny_truthy_bool q
end
/-! ### all(test for x in text): a generator expression over signs -/
abbrev GenSB := GenS1
/-- all(x in y for x in e), e a text, y a text of slot i -/
def tAllIn (P : Addr) (i : Nat) (te : TE) : TE := fun σ H Q => te σ H fun v H1 => ∃ a z : Str, v = .str a ∧ σ[i]? = some (some (.str z)) ∧ GxR.TabG H1 P ∧
  ∀ H2, GxR.Tabbed P H1 H2 → Q (.bl (a.cps.toList.all fun c => decide (c ∈ z.cps.toList))) H2
section
variable {X : Cx}
theorem pe_allIn {c P : Addr} {e : Expr} {x y : Str} {i : Nat} {px p pos gpos q1 q2 q3 : Pos} {scope : Scope} {te : TE} {k : Nat}
    (hr : Room k X.A) (hg : Gl X "all") (hm : X.mg "all" = none) (hb : bootBuiltins "all" = some (.builtin "all")) (TB : GxR.TabB X.base X.mg c P) (hcode : X.env.code = .ref c) (S : GenSB X.env.scope scope x) (hi : PE X e te)
    (hN : X.N[i]? = some y) (hy1 : X.env.scope.names.lookup y = some .cell) (hy2 : scope.names.lookup y = some .free) (hcl : ∀ cc, X.env.cells.lookup y = some cc → (cloFrom X.env.cells scope.names []).lookup y = some cc)
    (hda : (x == ("__debug__" : Str)) = false) (hdb : (y == ("__debug__" : Str)) = false) (hdc : (y == ("__classdict__" : Str)) = false)
    (hs : ∀ v, genFold e X.env v = pure v := by intro _; rfl)
    (he : starEach [.GeneratorExp (.Compare (.Name x q1) [.In] [.Name y q2] q3) [⟨.Name x px, e, [], 0⟩] scope gpos] X.env = (false, eval (.GeneratorExp (.Compare (.Name x q1) [.In] [.Name y q2] q3) [⟨.Name x px, e, [], 0⟩] scope gpos) X.env) :: starEach [] X.env := by rfl) :
    PE X (.Call (.Name "all" p) [.GeneratorExp (.Compare (.Name x q1) [.In] [.Name y q2] q3) [⟨.Name x px, e, [], 0⟩] scope gpos] [] pos) (tAllIn P i te) := by
  refine ⟨fun pins s σ H Q I h => call_gen hg hm hb he I (gen_ones hr TB hcode S hs I (thn (hi.run pins s σ H _ I h) fun u0 s1 r => ?_))⟩
  obtain ⟨_, H1, J, isText, a, z, rfl, slot, tab, q⟩ := r
  obtain ⟨t, rfl⟩ := isText
  have lP : P < s1.heap.objs.size := tab.elim fun _ x => Heap.lt_size (show s1.heap.get? P = _ from J.hok P _ x.1)
  -- the captured text's cell
  obtain ⟨tz, cc, isCell, there⟩ : ∃ tz cc, X.env.cells.lookup y = some cc ∧ s1.heap.IsCell cc (some (.str z tz)) := by
    obtain ⟨_, _, seen⟩ := J.loc
    obtain ⟨u, ⟨tz, rfl⟩, plain | cell⟩ := seen i y _ hN slot (.inr (.inl hy1))
    · have no : X.env.scope.names.lookup y = some .local := plain.1
      rw [hy1] at no
      cases no
    · obtain ⟨_, cc, isCell, there⟩ := cell
      exact ⟨tz, cc, isCell, there⟩
  obtain ⟨oc, at_, isText⟩ := id there
  have cP : cc ≠ P := tab_ne J tab at_ (.inr fun vs z => by rw [isText] at z; cases z)
  refine wpAny_pyIter_str fun o St W st => ?_
  refine ⟨_, _, _, _, _, _, fun j v => v = .bool (GxR.trF (fun c => decide (c ∈ z.cps.toList)) a.cps.toList j), pins, σ, H1, s1, rfl, ⟨J, tab, ⟨_, s1.toks, rfl⟩, fun b u e => Heap.get?_push_of_some _ e, by rw [Heap.size_push]; exact Nat.le_succ _, fun b hb => ?_, fun b hb => ?_⟩, W, st, ?_, ?_⟩
  · rw [List.mem_singleton.mp hb, Heap.size_push]
    exact ⟨Nat.lt_succ_self _, Nat.ne_of_gt lP⟩
  · exact Nat.le_of_eq (List.mem_singleton.mp hb).symm
  · intro cenv A' E' j va u m T at2 ns ma
    obtain ⟨ch, tc, hch, rfl⟩ := at2
    have isSign : a.cps.toList[j]? = some ch := Array.getElem?_toList.trans hch
    have free := hcl cc isCell
    rw [← T.cells] at free
    have func : cenv.scope.kind = .function := T.own.symm ▸ S.kind
    have isLocal : cenv.kindOf x = some .local := (congrArg (fun sc : Scope => sc.names.lookup x) T.own).trans S.la
    have isFree : cenv.kindOf y = some .free := (congrArg (fun sc : Scope => sc.names.lookup y) T.own).trans hy2
    refine wpAny_Compare1 (wpAny_Name (wpAny_loadName_local func isLocal ns ma ?_) hda) rfl
    refine wpAny_Name (wpAny_loadName_free func isFree free ⟨oc, T.still _ _ cP at_, isText⟩ ?_ (hn := hdc)) hdb
    exact PyProof.Rows.in_str ⟨(congrArg Value.bool (PySem.StrLaws.found_one z ch)).trans (congrArg Value.bool (GxR.trF_some (pb := fun c => decide (c ∈ z.cps.toList)) isSign).symm), GxR.keeps_refl _⟩
  · rintro g s5 ⟨fp, wr, G, F', St, W, st, _, say, held⟩
    refine call_all_walkS (W.self 0 _ _ _ st ⟨g, fp, wr, G, _, F', St, _, rfl, W, st, truth_of say, fun s' mv => ?_⟩)
    obtain ⟨H2, grown, J2⟩ := held s' mv
    exact ⟨.bl _, H2, J2, rfl, (GxR.all_signs a _).symm ▸ q H2 grown⟩
end
/-! ### what stays where tables of code may grow -/
def Tb (T : List Addr) (H : Hp) : Prop := ∀ t ∈ T, GxR.TabG H t
structure Ext (T : List Addr) (H H' : Hp) : Prop where
  ext : ∀ b o, H b = some o → (∀ ps, o ≠ .tbl ps) → H' b = some o
  t0 : Tb T H
  t1 : Tb T H'
  free : ∀ b, H' b = none → H b = none
section
variable {T : List Addr} {H H1 H2 : Hp}
theorem Ext.refl (h : Tb T H) : Ext T H H := ⟨fun _ _ e _ => e, h, h, fun _ e => e⟩
theorem Ext.trans (a : Ext T H H1) (b : Ext T H1 H2) : Ext T H H2 := ⟨fun c o e n => b.ext c o (a.ext c o e n) n, a.t0, b.t1, fun c e => a.free c (b.free c e)⟩
theorem Ext.lst (a : Ext T H H1) {p : Addr} {xs : List V} (h : H p = some (.lst xs)) : H1 p = some (.lst xs) := a.ext _ _ h fun _ z => nomatch z
theorem Ext.tup (a : Ext T H H1) {p : Addr} {xs : List V} (h : H p = some (.tup xs)) : H1 p = some (.tup xs) := a.ext _ _ h fun _ z => nomatch z
theorem Ext.same (s : Same H H1) (h : Tb T H) : Ext T H H1 := ⟨fun b o e _ => s b o e, h, fun t ht => by
  obtain ⟨ps, h1, h2⟩ := h t ht
  exact ⟨ps, s _ _ h1, h2⟩, fun b e => s.free e⟩
theorem Ext.new (a : Ext T H H1) {p : Addr} {o : HO} (hp : H p = none) : Ext T H (upd H1 p o) := by
  refine ⟨fun b u e n => ?_, a.t0, fun t ht => ?_, fun b e => ?_⟩
  · rw [upd_ne (ne_of_none e hp)]
    exact a.ext b u e n
  · obtain ⟨ps, h1, h2⟩ := a.t1 t ht
    obtain ⟨qs, h3, _⟩ := a.t0 t ht
    exact ⟨ps, by rw [upd_ne (ne_of_none h3 hp)]; exact h1, h2⟩
  · by_cases z : b = p
    · subst z
      exact hp
    · rw [upd_ne z] at e
      exact a.free b e
theorem Ext.tabbed {t : Addr} (h : Tb T H) (x : GxR.Tabbed t H H1) (ht : t ∈ T) : Ext T H H1 := by
  refine ⟨fun b o e n => ?_, h, fun u hu => ?_, fun b e => ?_⟩
  · obtain ⟨ps, h1, _⟩ := h t ht
    rw [x.2 b (fun z => by rw [z, h1] at e; exact n ps (Option.some.inj e).symm)]
    exact e
  · by_cases z : u = t
    · rw [z]
      exact x.1
    · obtain ⟨ps, h1, h2⟩ := h u hu
      exact ⟨ps, by rw [x.2 u z]; exact h1, h2⟩
  · by_cases z : b = t
    · obtain ⟨ps, h1, _⟩ := x.1
      rw [z, h1] at e
      cases e
    · rw [x.2 b z] at e
      exact e
end
/-! ### shops -/
inductive Ofr where
  | pack (c : List Int) (p : Int)
  | many (c : List Int) (ts : List (Int × Int))
  | add (c : List Int) (p k : Int)
def Ofr.cont : Ofr → List Int
  | .pack c _ => c
  | .many c _ => c
  | .add c _ _ => c
def Ofr.word : Ofr → Str
  | .pack _ _ => "pack"
  | .many _ _ => "many"
  | .add _ _ _ => "add"
def TiersAt (H : Hp) (a : Addr) (ts : List (Int × Int)) : Prop := ∃ us : List Addr, H a = some (.lst (us.map V.ref)) ∧ us.length = ts.length ∧ ∀ (i : Nat) u (t : Int × Int), us[i]? = some u → ts[i]? = some t → H u = some (.tup [.int t.1, .int t.2])
def OfrAt (H : Hp) (a : Addr) : Ofr → Prop
  | .pack c p => ∃ b, H a = some (.tup [.str "pack", .ref b, .int p]) ∧ H b = some (LI c)
  | .many c ts => ∃ b t, H a = some (.tup [.str "many", .ref b, .ref t]) ∧ H b = some (LI c) ∧ TiersAt H t ts
  | .add c p k => ∃ b, H a = some (.tup [.str "add", .ref b, .int p, .int k]) ∧ H b = some (LI c)
def ShopAt (H : Hp) (a : Addr) (os : List Ofr) : Prop := ∃ vs : List Addr, H a = some (.lst (vs.map V.ref)) ∧ vs.length = os.length ∧ ∀ (i : Nat) v o, vs[i]? = some v → os[i]? = some o → OfrAt H v o
section
variable {T : List Addr} {H H1 : Hp} (e : Ext T H H1)
include e
theorem TiersAt.ext {a : Addr} {ts : List (Int × Int)} (h : TiersAt H a ts) : TiersAt H1 a ts := by
  obtain ⟨us, h1, h2, h3⟩ := h
  exact ⟨us, e.lst h1, h2, fun i u t a b => e.tup (h3 i u t a b)⟩
theorem OfrAt.ext {a : Addr} : ∀ {o : Ofr}, OfrAt H a o → OfrAt H1 a o
  | .pack c p, ⟨b, h1, h2⟩ => ⟨b, e.tup h1, e.lst h2⟩
  | .many c ts, ⟨b, t, h1, h2, h3⟩ => ⟨b, t, e.tup h1, e.lst h2, h3.ext e⟩
  | .add c p k, ⟨b, h1, h2⟩ => ⟨b, e.tup h1, e.lst h2⟩
theorem ShopAt.ext {a : Addr} {os : List Ofr} (h : ShopAt H a os) : ShopAt H1 a os := by
  obtain ⟨vs, h1, h2, h3⟩ := h
  exact ⟨vs, e.lst h1, h2, fun i v o a b => (h3 i v o a b).ext e⟩
end
/-- the offer's word and its content, whatever it is -/
theorem OfrAt.head {H : Hp} {a : Addr} : ∀ {o : Ofr}, OfrAt H a o → ∃ b r, H a = some (.tup (.str o.word :: .ref b :: r)) ∧ H b = some (LI o.cont)
  | .pack c p, ⟨b, h1, h2⟩ => ⟨b, _, h1, h2⟩
  | .many c ts, ⟨b, t, h1, h2, h3⟩ => ⟨b, _, h1, h2⟩
  | .add c p k, ⟨b, h1, h2⟩ => ⟨b, _, h1, h2⟩
theorem ShopAt.get {H : Hp} {a : Addr} {os : List Ofr} {vs : List Addr} (h : vs.length = os.length) {i : Nat} (hi : i < os.length) : ∃ v o, vs[i]? = some v ∧ os[i]? = some o ∧ (vs.map V.ref)[i]? = some (.ref v) := by
  refine ⟨vs[i]'(by omega), os[i], List.getElem?_eq_getElem (by omega), List.getElem?_eq_getElem hi, ?_⟩
  rw [List.getElem?_map, List.getElem?_eq_getElem (by omega)]
  rfl
structure GoodT (ts : List (Int × Int)) : Prop where
  pos : 1 ≤ ts.length
  few : ts.length ≤ 4
  one : ∀ t, ts[0]? = some t → t.1 = 1
  most : ∀ t ∈ ts, t.1 ≤ 12
  rise : ∀ (i : Nat) a b, ts[i]? = some a → ts[i + 1]? = some b → a.1 < b.1
def GoodO (os : List Ofr) (i : Nat) : Ofr → Prop
  | .pack _ _ => True
  | .many _ ts => GoodT ts
  | .add _ _ k => ∃ j : Nat, k = (j : Int) ∧ j < i ∧ ∃ c p, os[j]? = some (.pack c p)
def Good (os : List Ofr) : Prop := os.length ≤ 8 ∧ ∀ (i : Nat) o, os[i]? = some o → GoodO os i o
/-- F.ok with the code object told -/
theorem okc {P : Program} {w : World} {K : PySem.W.Frag} {mg : Str → Option Value} {base : Heap} {x qual : Str} {st : Stmt} {f c : Addr} {fd : FuncData} {N ps : List Str} {k : Nat} {sp : Sp} (F : Fun K x qual st f fd) (hc : fd.code = .ref c) (S : FnScope N ps (defScope st)) (len : ∀ vs H Q E, sp vs H Q E → vs.length = ps.length)
    (hbody : ∀ (cdv : Value) (A : Around) (outer : List Env) (s : Shared) (H : Hp) (vs : List V) (Q : VK) (E : XK), cdv = .ref c → Room k (A.deeper (envOfC qual (defScope st) s.heap.objs.size f cdv)) → sp vs H Q E →
      ∃ t, PSs (cxOf CX0 P w K mg base N qual (defScope st) f cdv A outer s H E).nox (defBody st) t ∧ t { nx := fun _ H' => Q .non H', rt := Q } (start N vs) H) : FnOk P w K mg base CX0 (k + 1) f fd ps sp := by
  obtain ⟨oc, od, kV, doc, pm, an, cdv, ct, osl, rfl, lk, hcd⟩ := F.ex
  refine fn_of lk hcd S len fun A outer s H vs Q E hr hsp => ?_
  obtain ⟨t, h, q⟩ := hbody cdv A outer s H vs Q E hc hr hsp
  exact ⟨t, h.nox, q⟩
/-! ### texts of contents -/
/-- the text of a number -/
abbrev numS (n : Nat) : Str := Str.ofString (toString ((n : Nat) : Int))
theorem tl_numS (n : Nat) : TL.tl (numS n) = TL.numL n := TL.tl_num n
theorem numS_len (n : Nat) : (numS n).length = (TL.numL n).length := by rw [TL.len_tl, tl_numS]
theorem str_nil_app (x : Str) : Str.empty ++ x = x := TL.ext_tl (by rw [TL.tl_append]; rfl)
theorem str_len_app (x y : Str) : (x ++ y).length = x.length + y.length := by rw [TL.len_tl, TL.len_tl, TL.len_tl, TL.tl_append, List.length_append]
/-- «3 ham» -/
def partS (n : Nat) (x : Str) : Str := numS n ++ (" " : Str) ++ x
theorem tl_blank : TL.tl (" " : Str) = [32] := by decide +kernel
theorem tl_comma : TL.tl (", " : Str) = [44, 32] := by decide +kernel
theorem tl_part (n : Nat) (x : Str) : TL.tl (partS n x) = TL.numL n ++ 32 :: TL.tl x := by
  unfold partS
  rw [TL.tl_append, TL.tl_append, tl_numS, tl_blank, List.append_assoc]
  rfl
structure GoodN (xs : List Str) : Prop where
  few : xs.length ≤ 4
  nd : xs.Nodup
  small : ∀ x ∈ xs, ∀ c ∈ TL.tl x, 97 ≤ c ∧ c ≤ 122
  short : ∀ x ∈ xs, x.length ≤ 8
  some : ∀ x ∈ xs, 1 ≤ x.length
/-- the places of the things that are there -/
def idxs (cs : List Int) (m : Nat) : List Nat := (List.range m).filter fun i => decide (0 < cs.getD i 0)
theorem idxs_succ (cs : List Int) (m : Nat) : idxs cs (m + 1) = idxs cs m ++ if 0 < cs.getD m 0 then [m] else [] := by
  unfold idxs
  rw [List.range_succ, List.filter_append]
  by_cases h : 0 < cs.getD m 0
  · rw [if_pos h, List.filter_cons_of_pos (by rw [decide_eq_true h])]
    rfl
  · rw [if_neg h, List.filter_cons_of_neg (by rw [decide_eq_false h]; decide)]
    rfl
theorem idxs_mem {cs : List Int} {m i : Nat} : i ∈ idxs cs m ↔ i < m ∧ 0 < cs.getD i 0 := by
  unfold idxs
  rw [List.mem_filter, List.mem_range, decide_eq_true_eq]
theorem idxs_len (cs : List Int) (m : Nat) : (idxs cs m).length ≤ m := by
  have := List.length_filter_le (fun i => decide (0 < cs.getD i 0)) (List.range m)
  rw [List.length_range] at this
  exact this
theorem idxs_nodup (cs : List Int) (m : Nat) : (idxs cs m).Nodup := List.Nodup.sublist (List.filter_sublist) List.nodup_range
def partAt (xs : List Str) (cs : List Int) (i : Nat) : Str := partS (cs.getD i 0).toNat (xs.getD i Str.empty)
def partsM (xs : List Str) (cs : List Int) (m : Nat) : List Str := (idxs cs m).map (partAt xs cs)
theorem partsM_succ (xs : List Str) (cs : List Int) (m : Nat) : partsM xs cs (m + 1) = partsM xs cs m ++ if 0 < cs.getD m 0 then [partAt xs cs m] else [] := by
  unfold partsM
  rw [idxs_succ, List.map_append]
  by_cases h : 0 < cs.getD m 0
  · rw [if_pos h, if_pos h]
    rfl
  · rw [if_neg h, if_neg h]
    rfl
theorem partsM_len (xs : List Str) (cs : List Int) (m : Nat) : (partsM xs cs m).length ≤ m := by
  unfold partsM
  rw [List.length_map]
  exact idxs_len cs m
def showM (xs : List Str) (cs : List Int) : Str := if partsM xs cs xs.length = [] then ("nothing" : Str) else Str.join (", " : Str) (partsM xs cs xs.length)
/-- contents as wanted: as many as names, numbers to nine -/
structure FitC (xs : List Str) (cs : List Int) : Prop where
  len : cs.length = xs.length
  small : ∀ c ∈ cs, 0 ≤ c ∧ c ≤ 9
theorem FitC.at {xs : List Str} {cs : List Int} (h : FitC xs cs) {i : Nat} (hi : i < xs.length) : cs[i]? = some (cs.getD i 0) ∧ 0 ≤ cs.getD i 0 ∧ cs.getD i 0 ≤ 9 := by
  have hl : i < cs.length := by rw [h.len]; exact hi
  have e : cs.getD i 0 = cs[i] := by rw [List.getD_eq_getElem?_getD, List.getElem?_eq_getElem hl]; rfl
  have := h.small cs[i] (List.getElem_mem hl)
  exact ⟨by rw [e]; exact List.getElem?_eq_getElem hl, by omega, by omega⟩
theorem name_at {xs : List Str} {i : Nat} (hi : i < xs.length) : xs[i]? = some (xs.getD i Str.empty) ∧ xs.getD i Str.empty ∈ xs := by
  have e : xs.getD i Str.empty = xs[i] := by rw [List.getD_eq_getElem?_getD, List.getElem?_eq_getElem hi]; rfl
  rw [e]
  exact ⟨List.getElem?_eq_getElem hi, List.getElem_mem hi⟩
theorem partAt_len {xs : List Str} {cs : List Int} (g : GoodN xs) (h : FitC xs cs) {i : Nat} (hi : i < xs.length) : (partAt xs cs i).length ≤ 10 := by
  obtain ⟨_, h1, h2⟩ := h.at hi
  obtain ⟨_, m⟩ := name_at hi
  have s := g.short _ m
  have e : (TL.numL (cs.getD i 0).toNat).length ≤ 1 := TL.numL_len (by decide) (by omega)
  have b : (" " : Str).length = 1 := by decide +kernel
  unfold partAt partS
  rw [str_len_app, str_len_app, numS_len, b]
  omega
theorem partAt_comma {xs : List Str} {cs : List Int} (g : GoodN xs) {i : Nat} (hi : i < xs.length) : 44 ∉ TL.tl (partAt xs cs i) := fun z => by
  unfold partAt at z
  rw [tl_part] at z
  rcases List.mem_append.mp z with z | z
  · exact TL.numL_free (by decide) z
  · rcases List.mem_cons.mp z with z | z
    · omega
    · have := g.small _ (name_at hi).2 _ z
      omega
theorem parts_all {xs : List Str} {cs : List Int} {p : Str} (h : p ∈ partsM xs cs xs.length) : ∃ i, i < xs.length ∧ 0 < cs.getD i 0 ∧ p = partAt xs cs i := by
  obtain ⟨i, hi, rfl⟩ := List.mem_map.mp h
  have := idxs_mem.mp hi
  exact ⟨i, this.1, this.2, rfl⟩
theorem join_split {xs : List Str} {cs : List Int} (g : GoodN xs) (h : partsM xs cs xs.length ≠ []) : Txt.split (Str.join (", " : Str) (partsM xs cs xs.length)) (", " : Str) = partsM xs cs xs.length := by
  rw [← TL.join_eq]
  refine TL.split_join tl_comma (by decide +kernel) h fun p hp => ?_
  obtain ⟨i, hi, _, rfl⟩ := parts_all hp
  exact partAt_comma g hi
theorem joinL_head (S p : List Nat) (r : List (List Nat)) {c : Nat} (h : c ∈ p) : c ∈ TL.joinL S (p :: r) := by
  cases r with
  | nil => exact h
  | cons q r => exact List.mem_append.mpr (.inl h)
theorem joined_blank {xs : List Str} {cs : List Int} (h : partsM xs cs xs.length ≠ []) : 32 ∈ TL.tl (Str.join (", " : Str) (partsM xs cs xs.length)) := by
  cases e : partsM xs cs xs.length with
  | nil => exact absurd e h
  | cons p r =>
    obtain ⟨i, _, _, rfl⟩ := parts_all (xs := xs) (cs := cs) (p := p) (by rw [e]; exact List.mem_cons_self)
    rw [TL.tl_join, List.map_cons]
    refine joinL_head _ _ _ ?_
    unfold partAt
    rw [tl_part]
    exact List.mem_append.mpr (.inr List.mem_cons_self)
theorem joined_other {xs : List Str} {cs : List Int} (h : partsM xs cs xs.length ≠ []) : Str.join (", " : Str) (partsM xs cs xs.length) ≠ ("nothing" : Str) := fun z => by
  have := joined_blank h
  rw [z] at this
  revert this
  decide +kernel
theorem join_len (y : Str) : ∀ ps : List Str, (∀ p ∈ ps, p.length ≤ 10) → (Str.join y ps).length ≤ ps.length * (10 + y.length)
  | [], _ => Nat.zero_le _
  | [p], h => by
    have := h p List.mem_cons_self
    show p.length ≤ (0 + 1) * (10 + y.length)
    omega
  | p :: q :: r, h => by
    have h1 := h p List.mem_cons_self
    have h2 := join_len y (q :: r) fun z hz => h z (List.mem_cons_of_mem _ hz)
    show (p ++ y ++ Str.join y (q :: r)).length ≤ ((q :: r).length + 1) * (10 + y.length)
    rw [str_len_app, str_len_app, Nat.add_mul]
    omega
theorem joined_len {xs : List Str} {cs : List Int} (g : GoodN xs) (h : FitC xs cs) : (Str.join (", " : Str) (partsM xs cs xs.length)).length ≤ 48 := by
  have h1 := join_len (", " : Str) (partsM xs cs xs.length) fun p hp => by
    obtain ⟨i, hi, _, rfl⟩ := parts_all hp
    exact partAt_len g h hi
  have h2 := partsM_len xs cs xs.length
  have h3 := g.few
  have b : (", " : Str).length = 2 := by decide +kernel
  rw [b] at h1
  omega
theorem parts_sum {ps : List Str} (h : ∀ p ∈ ps, p.length ≤ 10) : (ps.map (·.length)).sum ≤ ps.length * 10 := by
  induction ps with
  | nil => exact Nat.le_refl _
  | cons p r ih =>
    have h1 := h p List.mem_cons_self
    have h2 := ih fun z hz => h z (List.mem_cons_of_mem _ hz)
    rw [List.map_cons, List.sum_cons, List.length_cons]
    omega
/-- the first figure of a number above nought is no nought -/
theorem numL_head : ∀ n : Nat, 0 < n → ∃ c r, TL.numL n = c :: r ∧ c ≠ 48 := by
  intro n
  induction n using Nat.strongRecOn with
  | _ n ih =>
    intro h
    by_cases hn : n < 10
    · exact ⟨48 + n, [], TL.numL_lt hn, by omega⟩
    · obtain ⟨c, r, e, hc⟩ := ih (n / 10) (by omega) (by omega)
      refine ⟨c, r ++ [48 + n % 10], ?_, hc⟩
      rw [TL.numL_step (by omega), e]
      rfl
theorem numL_figs (n : Nat) : (TL.numL n).all (fun c => decide (c ∈ ("0123456789" : Str).cps.toList)) = true := by
  rw [List.all_eq_true]
  intro c hc
  have hd : 48 ≤ c ∧ c ≤ 57 := by
    have h1 : ¬ (c < 48 ∨ 57 < c) := fun z => TL.numL_free z hc
    omega
  obtain ⟨k, hk, rfl⟩ : ∃ k, k < 10 ∧ c = 48 + k := ⟨c - 48, by omega, by omega⟩
  have : ∀ k, k < 10 → decide ((48 + k) ∈ ("0123456789" : Str).cps.toList) = true := by decide +kernel
  exact this k hk
theorem numL_pos (n : Nat) : 1 ≤ (TL.numL n).length := by
  cases e : TL.numL n with
  | nil => exact absurd e (TL.numL_ne n)
  | cons c r => rw [List.length_cons]; omega
theorem numL_zero : TL.numL 0 = [48] := TL.numL_lt (by decide)
theorem part_cut (n : Nat) (x : Str) : Txt.partition (partS n x) (" " : Str) = (numS n, (" " : Str), x) :=
  TL.partition_app tl_blank (by rw [tl_numS]; exact TL.numL_free (by decide))
/-- an f-string's reading under a name of its own -/
def tJoined (ts : List TE) : TE := fun σ H Q => tJs ts Str.empty σ H fun out H1 => Q (.str out) H1
theorem pe_joinedD {X : Cx} {v1 v2 : Expr} {rest : List Expr} {ts : List TE} {pos : Pos} (h : PJ X (v1 :: v2 :: rest) ts) : PE X (.JoinedStr (v1 :: v2 :: rest) pos) (tJoined ts) := pe_joined h
/-! ### show_content -/
abbrev s_show_content : Stmt := topS 7
abbrev N_show_content : List Str := ["names", "content", "parts", "number", "name"]
theorem sc_show_content : FnScope N_show_content ["names", "content"] (defScope s_show_content) := ⟨rfl, rfl, rfl, by decide +kernel, rfl, by decide +kernel, by decide +kernel⟩

/-- a list of texts -/
abbrev LS (xs : List Str) : HO := .lst (xs.map V.str)
theorem ls_app (ls : List Str) (x : Str) : HO.lst (ls.map V.str ++ [.str x]) = LS (ls ++ [x]) := by
  show _ = HO.lst ((ls ++ [x]).map V.str)
  rw [List.map_append]
  rfl
theorem get_strs {xs : List Str} {i : Nat} {x : Str} (h : xs[i]? = some x) : (xs.map V.str)[i]? = some (.str x) := by
  rw [List.getElem?_map, h]
  rfl
theorem of_get_strs {xs : List Str} {i : Nat} {v : V} (h : (xs.map V.str)[i]? = some v) : ∃ x, xs[i]? = some x ∧ v = .str x := by
  rw [List.getElem?_map] at h
  cases e : xs[i]? with
  | none => rw [e] at h; cases h
  | some n => rw [e] at h; exact ⟨n, rfl, (Option.some.inj h).symm⟩
theorem fpart {c : Int} (h : 0 ≤ c) (x : Str) : ((Str.empty ++ Str.ofString (toString c)) ++ (" " : Str)) ++ x = partS c.toNat x := by
  obtain ⟨n, rfl⟩ := Int.eq_ofNat_of_zero_le h
  rw [str_nil_app]
  rfl
theorem small_log {c : Int} (h : 0 ≤ c) (h9 : c ≤ 9) : c.natAbs.log2 < 1920 := by
  have h1 : c.natAbs < 2 ^ 4 := by
    have : (2 : Nat) ^ 4 = 16 := rfl
    omega
  have := Nat.log2_lt (n := c.natAbs) (k := 4)
  by_cases hz : c.natAbs = 0
  · rw [hz]
    decide
  · have := (this hz).mpr h1
    omega
theorem num1_len {c : Int} (h : 0 ≤ c) (h9 : c ≤ 9) : (Str.ofString (toString c)).length ≤ 1 := by
  obtain ⟨n, rfl⟩ := Int.eq_ofNat_of_zero_le h
  have := TL.numL_len (n := n) (k := 1) (by decide) (by omega)
  have e : (Str.ofString (toString ((n : Nat) : Int))).length = (TL.numL n).length := numS_len n
  exact e ▸ this
theorem blank_len : (" " : Str).length = 1 := by decide +kernel
def sp_show_content (K : PySem.W.Frag) : Sp := fun vs H Q _ => ∃ (a b : Addr) (xs : List Str) (cs : List Int), vs = [.ref a, .ref b] ∧ H a = some (LS xs) ∧ H b = some (LI cs) ∧ GoodN xs ∧ FitC xs cs ∧ ∀ H', Same H H' → Q (.str (showM xs cs)) H'
section
variable {P : Program} {w : World} {K : PySem.W.Frag} {mg : Str → Option Value} {base : Heap} {T : List Addr}
theorem ok_show_content {f : Addr} {fd : FuncData} {k : Nat} (M : Names mg) (D : Def K mg "show_content" s_show_content ["names", "content"] f fd) : FnOk P w K mg base CX0 (k + 1) f fd ["names", "content"] (sp_show_content K) := by
  refine D.F.ok sc_show_content (fun vs H Q E h => ?_) (fun cdv A outer s H vs Q E hr h => ?_)
  · obtain ⟨a, b, xs, cs, rfl, _⟩ := h
    rfl
  · obtain ⟨a, b, xs, cs, rfl, ha, hb, g, fc, q⟩ := h
    have few := g.few
    refine ⟨_, (pss_cons (ps_setLc (i := 2) (own := [("number", 3), ("name", 4)]) (by rfl) sc_show_content.nd rfl rfl (sw_true rfl rfl rfl (by decide +kernel)) (pi_zip (by rfl) M.zip (pa_cons (pv 1) (pa_cons (pv 0) pa_nil))) (blkOk_by (own := [("number", 3), ("name", 4)]) (N := N_show_content) (sc := defScope s_show_content) (by decide +kernel)) (fun _ _ _ _ _ => (pg_tupK (K := K) (n := 2) rfl rfl (pgs_cons (pg_name (i := 3) sc_show_content.nd rfl (Or.inl rfl)) (pgs_cons (pg_name (i := 4) sc_show_content.nd rfl (Or.inl rfl)) pgs_nil)))) (fun _ _ _ _ _ => (pts_one (pt_cmpR op_gt (pv 3) pe_int (nomark _)))) (fun _ _ _ _ _ => (pe_joinedD (.cons (pe_fmt (pv 3)) (.cons pe_str (.cons (pe_fmt (pv 4)) .nil))))))
  (pss_one (ps_ret (pe_orT (pe_join pe_str (pv 2)) (pe_one pe_str))))), ?_⟩
    refine ⟨_, rfl, _, rfl, b, a, _, _, rfl, SqL.of hb, SqL.of ha, fun B nB => lc_it (walk_zip (K := K) (xs := cs.map V.int) (ys := xs.map V.str) rfl) (fun i H' => Same H H' ∧ H' B = some (LS (partsM xs cs i))) ⟨same_upd nB, upd_same⟩ (fun i H' _ hp => ⟨SqL.of (hp.1 _ _ hb), SqL.of (hp.1 _ _ ha)⟩) (fun i x H1 H2 hi hp hy => ?_) (fun H1 hp => ?_)⟩
    · obtain ⟨s1, hB⟩ := hp
      obtain ⟨Tt, x1, x2, rfl, nT, rfl, e1, e2⟩ := hy
      rw [List.length_map, List.length_map] at hi
      have hix : i < xs.length := by omega
      obtain ⟨n, hn, rfl⟩ := of_get_ints e1
      obtain ⟨m, hm, rfl⟩ := of_get_strs e2
      obtain ⟨f1, f2, f3⟩ := fc.at hix
      obtain ⟨g1, g2⟩ := name_at hix
      cases Option.some.inj (f1.symm.trans hn)
      cases Option.some.inj (g1.symm.trans hm)
      have hB2 := (same_upd (o := .tup [.int (cs.getD i 0), .str (xs.getD i Str.empty)]) nT) _ _ hB
      have s2 := s1.trans (same_upd (o := .tup [.int (cs.getD i 0), .str (xs.getD i Str.empty)]) nT)
      have sh := g.short _ g2
      have l1 := num1_len f2 f3
      refine ⟨Tt, _, rfl, SqT.of upd_same, rfl, _, _, rfl, _, _, rfl, rfl, rfl, _, rfl, _, _, rfl, rfl, _, rfl, ite2 (fun c => ?_) (fun c => ?_)⟩
      · have c2 : cs.getD i 0 > 0 := of_decide_eq_true c
        refine ⟨_, rfl, .inr ⟨_, rfl, small_log f2 f3, _, rfl, szL (by rw [str_nil_app]; omega), _, rfl, szL (by rw [str_nil_app, str_len_app, blank_len]; omega), _, rfl, .inl ⟨_, rfl, szL (by omega), _, rfl, szL (by rw [str_nil_app, str_len_app, str_len_app, blank_len]; omega), ?_⟩⟩⟩
        refine ⟨_, hB2, szL' (by rw [List.length_map]; have := partsM_len xs cs i; omega), sm_new s2 nB, ?_⟩
        rw [upd_same, ls_app, partsM_succ, if_pos c2, fpart f2]
        rfl
      · have c2 : ¬ cs.getD i 0 > 0 := fun z => c (decide_eq_true z)
        refine ⟨s2, ?_⟩
        rw [partsM_succ, if_neg c2, List.append_nil]
        exact hB2
    · obtain ⟨s1, hB⟩ := hp
      rw [List.length_map, List.length_map, fc.len, Nat.min_self] at hB
      have hl := partsM_len xs cs xs.length
      have pl : ∀ p ∈ partsM xs cs xs.length, p.length ≤ 10 := fun p hp => by
        obtain ⟨i, hi, _, rfl⟩ := parts_all hp
        exact partAt_len g fc hi
      have ps := parts_sum pl
      have jl := joined_len g fc
      have cl : (", " : Str).length = 2 := by decide +kernel
      unfold showM at q
      by_cases z : partsM xs cs xs.length = []
      · rw [if_pos z] at q
        rw [z] at hB
        exact ⟨⟨_, rfl⟩, _, rfl, _, B, [], rfl, rfl, .inl (SqL.of hB), by decide, false, ⟨by decide +kernel, by decide +kernel⟩, q H1 s1⟩
      · rw [if_neg z] at q
        have := joined_blank z
        have l0 : (Str.join (", " : Str) (partsM xs cs xs.length)).length ≠ 0 := fun e => by
          rw [TL.len0_tl] at e
          rw [e] at this
          cases this
        refine ⟨⟨_, rfl⟩, _, rfl, _, B, _, rfl, rfl, .inl (SqL.of hB), by rw [cl]; omega, true, ⟨szL (by rw [TL.join_eq]; omega), ?_⟩, ?_⟩
        · rw [TL.join_eq]
          symm
          simp only [bne_iff_ne, ne_eq]
          omega
        · rw [TL.join_eq]
          exact q H1 s1
end
/-! ### made_of, read_number, within_bounds -/
abbrev s_made_of : Stmt := topS 8
abbrev N_made_of : List Str := ["signs", "text", "most", "sign"]
theorem sc_made_of : FnScope N_made_of ["signs", "text", "most"] (defScope s_made_of) := ⟨rfl, rfl, rfl, by decide +kernel, rfl, by decide +kernel, by decide +kernel⟩

abbrev s_read_number : Stmt := topS 9
abbrev N_read_number : List Str := ["text", "figures"]
theorem sc_read_number : FnScope N_read_number ["text", "figures"] (defScope s_read_number) := ⟨rfl, rfl, rfl, by decide +kernel, rfl, by decide +kernel, by decide +kernel⟩

abbrev s_within_bounds : Stmt := topS 10
abbrev N_within_bounds : List Str := ["content", "many", "number"]
theorem sc_within_bounds : FnScope N_within_bounds ["content"] (defScope s_within_bounds) := ⟨rfl, rfl, rfl, by decide +kernel, rfl, by decide +kernel, by decide +kernel⟩

def madeM (z a : Str) (most : Int) : Bool := if 1 ≤ a.length ∧ (a.length : Int) ≤ most then a.cps.toList.all (fun c => decide (c ∈ z.cps.toList)) else false
def sp_made_of (T : List Addr) : Sp := fun vs H Q _ => ∃ (z a : Str) (most : Int), vs = [.str z, .str a, .int most] ∧ a.length ≤ sizeLine ∧ Tb T H ∧ ∀ H', Ext T H H' → Q (.bl (madeM z a most)) H'
def sp_read_number (T : List Addr) : Sp := fun vs H Q _ => ∃ (n k : Nat), vs = [.str (numS n), .int k] ∧ n < 10 ^ k ∧ 0 < k ∧ k ≤ 12 ∧ Tb T H ∧ ∀ H', Ext T H H' → Q (.int (n : Int)) H'
def boundM (cs : List Int) : Int := cs.foldl (fun p c => p * (c + 1)) 1
def sp_within_bounds : Sp := fun vs H Q _ => ∃ (a : Addr) (cs : List Int), vs = [.ref a] ∧ H a = some (LI cs) ∧ (∀ c ∈ cs, 0 ≤ c ∧ c ≤ 9) ∧ cs.length ≤ 4 ∧ Q (.bl (decide (boundM cs ≤ 400))) H
section
variable {P : Program} {w : World} {K : PySem.W.Frag} {mg : Str → Option Value} {base : Heap} {T : List Addr}
theorem ok_made_of {f c t : Addr} {fd : FuncData} {k : Nat} (M : Names mg) (D : Def K mg "made_of" s_made_of ["signs", "text", "most"] f fd) (hc : fd.code = .ref c) (TB : GxR.TabB base mg c t) (ht : t ∈ T) : FnOk P w K mg base CX0 (k + 1) f fd ["signs", "text", "most"] (sp_made_of T) := by
  refine okc D.F hc sc_made_of (fun vs H Q E h => ?_) (fun cdv A outer s H vs Q E ec hr h => ?_)
  · obtain ⟨z, a, most, rfl, _⟩ := h
    rfl
  · obtain ⟨z, a, most, rfl, hl, hT, q⟩ := h
    refine ⟨_, (pss_one (ps_ret (pe_and (pe_chain op_le op_le pe_int (pe_callB call_len_str (by rfl) M.len (by decide +kernel) (pa_cons (pv 1) pa_nil)) (pv 2)) (pe_one (pe_allIn (i := 0) hr (by rfl) M.all (by decide +kernel) TB ec ⟨rfl, rfl, by decide +kernel, rfl, rfl, (by show ∀ y : Str × NameKind, y ∈ _ → y.2 = .free → (defScope s_made_of).names.lookup y.1 = some .cell; decide +kernel)⟩ (pv 1) rfl rfl rfl (fun cc h => by show some (((envOfC "made_of" (defScope s_made_of) s.heap.objs.size f cdv).cells.lookup ("signs" : Str)).getD 0) = some cc; rw [show (envOfC "made_of" (defScope s_made_of) s.heap.objs.size f cdv).cells.lookup ("signs" : Str) = some cc from h]; rfl) (by decide) (by decide) (by decide)))))), ?_⟩
    unfold madeM at q
    by_cases h1 : 1 ≤ a.length
    · by_cases h2 : (a.length : Int) ≤ most
      · rw [if_pos ⟨h1, h2⟩] at q
        refine ⟨_, rfl, _, rfl, hl, _, _, rfl, rfl, true, (by show V.bl _ = V.bl _; rw [decide_eq_true (by omega)]), _, rfl, _, _, rfl, rfl, true, (by show V.bl _ = V.bl _; rw [decide_eq_true h2]), ?_⟩
        exact ⟨_, rfl, a, z, rfl, rfl, hT t ht, fun H2 t2 => q H2 (.tabbed hT t2 ht)⟩
      · rw [if_neg (fun z => h2 z.2)] at q
        exact ⟨_, rfl, _, rfl, hl, _, _, rfl, rfl, true, (by show V.bl _ = V.bl _; rw [decide_eq_true (by omega)]), _, rfl, _, _, rfl, rfl, false, (by show V.bl _ = V.bl _; rw [decide_eq_false h2]), q H (.refl hT)⟩
    · rw [if_neg (fun z => h1 z.1)] at q
      exact ⟨_, rfl, _, rfl, hl, _, _, rfl, rfl, false, (by show V.bl _ = V.bl _; rw [decide_eq_false (by omega)]), false, rfl, q H (.refl hT)⟩
theorem made_num {n k : Nat} (hk : 0 < k) (h : n < 10 ^ k) : madeM ("0123456789" : Str) (numS n) k = true := by
  unfold madeM
  have l1 := numL_pos n
  have l2 := TL.numL_len hk h
  rw [if_pos (by rw [numS_len]; exact ⟨l1, by omega⟩)]
  have := numL_figs n
  rw [← tl_numS] at this
  exact this
theorem ok_read_number {f f1 c t : Addr} {fd fd1 : FuncData} {k : Nat} (M : Names mg) (D : Def K mg "read_number" s_read_number ["text", "figures"] f fd) (D_made_of : Def K mg "made_of" s_made_of ["signs", "text", "most"] f1 fd1) (hc : fd1.code = .ref c) (TB : GxR.TabB base mg c t) (ht : t ∈ T) : FnOk P w K mg base CX0 (k + 2) f fd ["text", "figures"] (sp_read_number T) := by
  have G_made_of : FnOk P w K mg base CX0 (k + 1) f1 fd1 ["signs", "text", "most"] (sp_made_of T) := ok_made_of M D_made_of hc TB ht
  obtain ⟨tF, m_FIGURES⟩ := M.c_FIGURES
  refine D.F.ok sc_read_number (fun vs H Q E h => ?_) (fun cdv A outer s H vs Q E hr h => ?_)
  · obtain ⟨n, k, rfl, _⟩ := h
    rfl
  · obtain ⟨n, k, rfl, hn, hk, hk2, hT, q⟩ := h
    have l1 := numL_pos n
    have l2 := TL.numL_len hk hn
    have ln := numS_len n
    refine ⟨_, (pss_cons (ps_if (PW.pt (pw_or (pt_not (pt_val (pe_call G_made_of hr (by rfl) D_made_of.g D_made_of.F.kp D_made_of.b .nil pass0 (pa_cons (pe_glob (v := .str "0123456789") (by rfl) m_FIGURES ⟨_, rfl⟩) (pa_cons (pv 0) (pa_cons (pv 1) pa_nil)))))) (pw_or1 (PW.pt (pw_and (pt_cmpR op_eq (pe_ix ix_str (pv 0) pe_int (fun _ _ => rfl)) pe_str (nomark _)) (pw_and1 (pt_cmpR op_ne (pv 0) pe_str (nomark _))))))))
   (pss_one ps_never)
   pss_nil)
  (pss_one (ps_ret (pe_callTy call_int_str (by rfl) M.int (by decide +kernel) (pa_cons (pv 0) pa_nil))))), ?_⟩
    refine ⟨_, rfl, _, rfl, _, _, _, rfl, szL (by omega), hT, fun H1 e1 => ?_⟩
    rw [made_num hk hn]
    have fin : intText? (numS n) = some (n : Int) := TL.int_num (by omega)
    have last : ∀ {Q' : V → Hp → Prop}, Q' (.int (n : Int)) H1 → ∃ a m, [V.str (numS n)] = [.str a] ∧ PySem.intText? a = some m ∧ a.length ≤ 640 ∧ Q' (.int m) H1 := fun h => ⟨_, _, rfl, fin, by omega, h⟩
    by_cases z : n = 0
    · subst z
      refine ⟨true, rfl, _, rfl, _, _, 48, rfl, rfl, szL (by omega), by decide +kernel, rfl, true, by decide +kernel, _, rfl, rfl, false, by decide +kernel, _, rfl, last (q H1 e1)⟩
    · obtain ⟨c0, r, e0, n0⟩ := numL_head n (by omega)
      have ht0 : (numS n).cps.toList = c0 :: r := (tl_numS n).trans e0
      refine ⟨true, rfl, _, rfl, _, _, c0, rfl, rfl, szL (by omega), by rw [ht0]; exact atI_nat (j := 0) rfl, rfl, false, ?_, _, rfl, last (q H1 e1)⟩
      refine congrArg V.bl (decide_eq_false fun z2 => n0 ?_)
      have z3 := V.str.inj z2
      have z4 : TL.tl (⟨#[c0]⟩ : Str) = TL.tl ("0" : Str) := congrArg TL.tl z3
      rw [show TL.tl ("0" : Str) = [48] by decide +kernel] at z4
      exact (List.cons.inj z4).1
theorem ok_within_bounds {f : Addr} {fd : FuncData} {k : Nat} (M : Names mg) (D : Def K mg "within_bounds" s_within_bounds ["content"] f fd) : FnOk P w K mg base CX0 (k + 1) f fd ["content"] sp_within_bounds := by
  obtain ⟨tF, m_MOST_LESSER⟩ := M.c_MOST_LESSER
  refine D.F.ok sc_within_bounds (fun vs H Q E h => ?_) (fun cdv A outer s H vs Q E hr h => ?_)
  · obtain ⟨a, cs, rfl, _⟩ := h
    rfl
  · obtain ⟨a, cs, rfl, ha, sm, hl, q⟩ := h
    refine ⟨_, (pss_cons (ps_set (i := 1) sc_within_bounds.nd rfl (Or.inl rfl) pe_int)
  (pss_cons (ps_for PassesOwn.never rfl (pi_list (pv 0)) (pg_name (i := 2) sc_within_bounds.nd rfl (Or.inl rfl))
   (pss_one (ps_aug (i := 1) sc_within_bounds.nd rfl (Or.inl rfl) (pe_op op_add (pv 2) pe_int) iop_mul)))
  (pss_one (ps_ret (pe_cmpR op_le (pv 1) (pe_glob (v := .int 400) (by rfl) m_MOST_LESSER ⟨_, rfl⟩) (nomark _)))))), ?_⟩
    refine ⟨_, rfl, a, rfl, ⟨_, SqL.of ha⟩, for_list (xs := cs.map V.int) (fun i σ H' => ∃ y2, σ = [some (.ref a), some (.int (boundM (cs.take i))), y2] ∧ H' = H) ⟨none, rfl, rfl⟩ (fun i σ H' _ hp => ?_) (fun i x σ H' hx hp => ?_) (fun σ H' hp => ?_)⟩
    · obtain ⟨_, _, rfl⟩ := hp
      exact SqL.of ha
    · obtain ⟨y2, rfl, rfl⟩ := hp
      obtain ⟨n, hn, rfl⟩ := of_get_ints hx
      have := sm n (List.mem_of_getElem? hn)
      refine ⟨_, rfl, _, rfl, _, _, rfl, rfl, _, _, rfl, rfl, (.inr ⟨by omega, by omega⟩), some (.int n), ?_, rfl⟩
      rw [take_succ_at hn]
      unfold boundM
      rw [List.foldl_append]
      rfl
    · obtain ⟨y2, rfl, rfl⟩ := hp
      rw [List.length_map, List.take_length]
      exact ⟨_, rfl, _, _, rfl, rfl, q⟩
end
/-! ### read_thing, read_content -/
abbrev s_read_thing : Stmt := topS 11
abbrev N_read_thing : List Str := ["names", "text", "figures", "blank", "name"]
theorem sc_read_thing : FnScope N_read_thing ["names", "text"] (defScope s_read_thing) := ⟨rfl, rfl, rfl, by decide +kernel, rfl, by decide +kernel, by decide +kernel⟩

abbrev s_read_content : Stmt := topS 12
abbrev N_read_content : List Str := ["names", "text", "content", "part", "number", "thing"]
theorem sc_read_content : FnScope N_read_content ["names", "text"] (defScope s_read_content) := ⟨rfl, rfl, rfl, by decide +kernel, rfl, by decide +kernel, by decide +kernel⟩

theorem inV_strs (x : Str) : ∀ xs : List Str, inV (.str x) (xs.map V.str) = decide (x ∈ xs)
  | [] => rfl
  | y :: r => by
    have ih := inV_strs x r
    unfold inV at ih ⊢
    rw [List.map_cons, List.any_cons, ih]
    show ((y == x) || decide (x ∈ r)) = decide (x ∈ y :: r)
    by_cases h : y = x
    · subst h
      simp
    · have h2 : ¬ x = y := fun z => h z.symm
      simp [h, h2]
theorem flat_strs (xs : List Str) : (xs.map V.str).all flatV = true := by
  rw [List.all_eq_true]
  intro v hv
  obtain ⟨x, _, rfl⟩ := List.mem_map.mp hv
  rfl
theorem nodup_at {xs : List Str} (nd : xs.Nodup) {i : Nat} {x : Str} (h : xs[i]? = some x) : ∀ (m : Nat) (z : V), m < i → (xs.map V.str)[m]? = some z → eqV z (.str x) = false := fun m z hm hz => by
  obtain ⟨y, hy, rfl⟩ := of_get_strs hz
  show (y == x) = false
  refine beq_eq_false_iff_ne.mpr fun e => ?_
  subst e
  have h1 := (List.getElem?_eq_some_iff.mp h)
  have h2 := (List.getElem?_eq_some_iff.mp hy)
  obtain ⟨l1, e1⟩ := h1
  obtain ⟨l2, e2⟩ := h2
  exact List.pairwise_iff_getElem.mp nd m i l2 l1 hm (e2.trans e1.symm)
theorem zeros_map (n : Nat) : (List.replicate n [V.int 0]).flatten = (List.replicate n (0 : Int)).map V.int := by
  induction n with
  | zero => rfl
  | succ n ih =>
    rw [List.replicate_succ, List.flatten_cons, ih, List.replicate_succ, List.map_cons]
    rfl
theorem parts_nil {xs : List Str} {cs : List Int} (fc : FitC xs cs) (h : partsM xs cs xs.length = []) : cs = List.replicate xs.length 0 := by
  unfold partsM at h
  have h0 := List.map_eq_nil_iff.mp h
  refine List.ext_getElem (by rw [fc.len, List.length_replicate]) fun i h1 h2 => ?_
  rw [List.getElem_replicate]
  have hi : i < xs.length := by rw [← fc.len]; exact h1
  obtain ⟨f1, f2, f3⟩ := fc.at hi
  have e := (List.getElem?_eq_some_iff.mp f1).2
  rw [e]
  by_cases z : 0 < cs.getD i 0
  · have := idxs_mem.mpr ⟨hi, z⟩
    rw [h0] at this
    cases this
  · omega
def sp_read_thing (T : List Addr) : Sp := fun vs H Q _ => ∃ (a : Addr) (xs : List Str) (i n : Nat) (x : Str), vs = [.ref a, .str (partS n x)] ∧ H a = some (LS xs) ∧ GoodN xs ∧ xs[i]? = some x ∧ n < 10 ∧ Tb T H ∧
  ∀ H' t, Ext T H H' → H t = none → H' t = some (.tup [.int (i : Nat), .int (n : Nat)]) → Q (.ref t) H'
def sp_read_content (T : List Addr) : Sp := fun vs H Q _ => ∃ (a : Addr) (xs : List Str) (cs : List Int), vs = [.ref a, .str (showM xs cs)] ∧ H a = some (LS xs) ∧ GoodN xs ∧ FitC xs cs ∧ boundM cs ≤ 400 ∧ Tb T H ∧
  ∀ H' p, Ext T H H' → H p = none → H' p = some (LI cs) → Q (.ref p) H'
section
variable {P : Program} {w : World} {K : PySem.W.Frag} {mg : Str → Option Value} {base : Heap} {T : List Addr}
theorem ok_read_thing {f f1 f2 c t : Addr} {fd fd1 fd2 : FuncData} {k : Nat} (M : Names mg) (D : Def K mg "read_thing" s_read_thing ["names", "text"] f fd) (D_read_number : Def K mg "read_number" s_read_number ["text", "figures"] f1 fd1) (D_made_of : Def K mg "made_of" s_made_of ["signs", "text", "most"] f2 fd2) (hc : fd2.code = .ref c) (TB : GxR.TabB base mg c t) (ht : t ∈ T) : FnOk P w K mg base CX0 (k + 3) f fd ["names", "text"] (sp_read_thing T) := by
  have G_read_number : FnOk P w K mg base CX0 (k + 2) f1 fd1 ["text", "figures"] (sp_read_number T) := ok_read_number M D_read_number D_made_of hc TB ht
  obtain ⟨tF, m_THING_FIGURES⟩ := M.c_THING_FIGURES
  refine D.F.ok sc_read_thing (fun vs H Q E h => ?_) (fun cdv A outer s H vs Q E hr h => ?_)
  · obtain ⟨a, xs, i, n, x, rfl, _⟩ := h
    rfl
  · obtain ⟨a, xs, i, n, x, rfl, ha, g, hx, hn, hT, q⟩ := h
    have mx := List.mem_of_getElem? hx
    have sh := g.short _ mx
    have l2 := TL.numL_len (n := n) (k := 1) (by decide) (by omega)
    have lp : (partS n x).length ≤ 10 := by
      unfold partS
      rw [str_len_app, str_len_app, numS_len, blank_len]
      omega
    refine ⟨_, (pss_cons (ps_asg (pe_partition (pv 1) pe_str) (pg_tup rfl (pgs_cons (pg_name (i := 2) sc_read_thing.nd rfl (Or.inl rfl)) (pgs_cons (pg_name (i := 3) sc_read_thing.nd rfl (Or.inl rfl)) (pgs_cons (pg_name (i := 4) sc_read_thing.nd rfl (Or.inl rfl)) pgs_nil)))))
  (pss_cons (ps_if (pt_cmpR op_notIn_seq (pv 4) (pv 0) (by rfl))
   (pss_one ps_never)
   pss_nil)
  (pss_one (ps_ret (pe_tup (pa_cons (pe_bm PySem.F.plainAttrs_list PySem.F.slot_list_index PySem.F.type_list_index mt_index (pv 0) (pa_cons (pv 4) pa_nil)) (pa_cons (pe_call G_read_number hr (by rfl) D_read_number.g D_read_number.F.kp D_read_number.b .nil pass0 (pa_cons (pv 2) (pa_cons (pe_glob (v := .int 1) (by rfl) m_THING_FIGURES ⟨_, rfl⟩) pa_nil))) pa_nil))))))), ?_⟩
    refine ⟨_, rfl, ⟨_, rfl⟩, _, _, rfl, rfl, by decide +kernel, szL (by omega), fun p np => ?_⟩
    rw [part_cut]
    have s1 := same_upd (o := .tup [.str (numS n), .str (" " : Str), .str x]) np
    have a1 := s1 _ _ ha
    refine ⟨p, _, rfl, SqT.of upd_same, rfl, _, _, rfl, _, _, rfl, _, _, rfl, rfl, ?_⟩
    have E1 : Ext T H _ := .same s1 hT
    generalize upd H p (.tup [.str (numS n), .str (" " : Str), .str x]) = H1 at s1 a1 E1 ⊢
    refine ⟨_, rfl, _, rfl, a, _, rfl, .inl (SqL.of a1), rfl, flat_strs xs, false, ?_, ?_⟩
    · show V.bl (!inV (.str x) (xs.map V.str)) = V.bl false
      rw [inV_strs, decide_eq_true mx]
      rfl
    refine ⟨_, rfl, .inl ⟨rfl, _, SqL.of a1⟩, _, rfl, a, _, _, i, _, rfl, rfl, SqL.of a1, rfl, flat_strs xs, get_strs hx, beq_self_eq_true x, nodup_at g.nd hx, ?_⟩
    refine ⟨_, rfl, n, 1, rfl, by omega, by decide, by decide, E1.t1, fun H2 e2 => ⟨by show 2 ≤ sizeLine; decide, fun t nt => ?_⟩⟩
    have E2 := E1.trans e2
    exact q _ t (E2.new (E2.free _ nt)) (E2.free _ nt) upd_same
theorem ok_read_content {f f1 f2 f3 f4 f5 c t : Addr} {fd fd1 fd2 fd3 fd4 fd5 : FuncData} {k : Nat} (M : Names mg) (D : Def K mg "read_content" s_read_content ["names", "text"] f fd) (D_read_thing : Def K mg "read_thing" s_read_thing ["names", "text"] f3 fd3) (D_show_content : Def K mg "show_content" s_show_content ["names", "content"] f4 fd4) (D_within_bounds : Def K mg "within_bounds" s_within_bounds ["content"] f5 fd5) (D_read_number : Def K mg "read_number" s_read_number ["text", "figures"] f1 fd1) (D_made_of : Def K mg "made_of" s_made_of ["signs", "text", "most"] f2 fd2) (hc : fd2.code = .ref c) (TB : GxR.TabB base mg c t) (ht : t ∈ T) : FnOk P w K mg base CX0 (k + 4) f fd ["names", "text"] (sp_read_content T) := by
  have G_read_thing : FnOk P w K mg base CX0 (k + 3) f3 fd3 ["names", "text"] (sp_read_thing T) := ok_read_thing M D_read_thing D_read_number D_made_of hc TB ht
  have G_show_content : FnOk P w K mg base CX0 (k + 3) f4 fd4 ["names", "content"] (sp_show_content K) := ok_show_content M D_show_content
  have G_within_bounds : FnOk P w K mg base CX0 (k + 3) f5 fd5 ["content"] sp_within_bounds := ok_within_bounds M D_within_bounds
  refine D.F.ok sc_read_content (fun vs H Q E h => ?_) (fun cdv A outer s H vs Q E hr h => ?_)
  · obtain ⟨a, xs, cs, rfl, _⟩ := h
    rfl
  · obtain ⟨a, xs, cs, rfl, ha, g, fc, hb, hT, q⟩ := h
    have few := g.few
    have jl := joined_len g fc
    refine ⟨_, (pss_cons (ps_set (i := 2) sc_read_content.nd rfl (Or.inl rfl) (pe_op op_rep (pe_lst (pa_cons pe_int pa_nil)) (pe_callB call_len_seq (by rfl) M.len (by decide +kernel) (pa_cons (pv 0) pa_nil))))
  (pss_cons (ps_if (pt_cmpR op_eq (pv 1) pe_str (nomark _))
   (pss_one (ps_ret (pv 2)))
   pss_nil)
  (pss_cons (ps_for PassesOwn.never rfl (pi_list (pe_split (pv 1) pe_str)) (pg_name (i := 3) sc_read_content.nd rfl (Or.inl rfl))
   (pss_cons (ps_asg (pe_call G_read_thing hr (by rfl) D_read_thing.g D_read_thing.F.kp D_read_thing.b .nil pass0 (pa_cons (pv 0) (pa_cons (pv 3) pa_nil))) (pg_tup rfl (pgs_cons (pg_name (i := 5) sc_read_content.nd rfl (Or.inl rfl)) (pgs_cons (pg_name (i := 4) sc_read_content.nd rfl (Or.inl rfl)) pgs_nil))))
  (pss_one (ps_asg (pv 4) (pg_sub (pv 2) (pv 5) set_list)))))
  (pss_cons (ps_if (PW.pt (pw_or (pt_cmpR op_ne (pe_call G_show_content hr (by rfl) D_show_content.g D_show_content.F.kp D_show_content.b .nil pass0 (pa_cons (pv 0) (pa_cons (pv 2) pa_nil))) (pv 1) (nomark _)) (pw_or1 (pt_not (pt_val (pe_call G_within_bounds hr (by rfl) D_within_bounds.g D_within_bounds.F.kp D_within_bounds.b .nil pass0 (pa_cons (pv 2) pa_nil)))))))
   (pss_one ps_never)
   pss_nil)
  (pss_one (ps_ret (pv 2))))))), ?_⟩
    refine ⟨by show 1 ≤ sizeLine; decide, fun l nl => ?_⟩
    have s1 := same_upd (o := .lst [V.int 0]) nl
    refine ⟨_, rfl, a, _, rfl, .inl (SqL.of (s1 _ _ ha)), l, _, _, rfl, rfl, upd_same, by omega, by rw [List.length_map]; omega, szL (by rw [List.length_map]; show 1 * ((xs.length : Nat) : Int).toNat ≤ _; omega), fun B nB => ?_⟩
    have s2 := s1.trans (same_upd (o := .lst (List.replicate ((((xs.map V.str).length : Nat) : Int)).toNat [V.int 0]).flatten) nB)
    have hB : upd (upd H l (.lst [V.int 0])) B (.lst (List.replicate ((((xs.map V.str).length : Nat) : Int)).toNat [V.int 0]).flatten) B = some (LI (List.replicate xs.length 0)) := by
      rw [upd_same, zeros_map, Int.toNat_natCast, List.length_map]
    have nB0 : H B = none := s1.free nB
    generalize upd (upd H l (.lst [V.int 0])) B (.lst (List.replicate ((((xs.map V.str).length : Nat) : Int)).toNat [V.int 0]).flatten) = H1 at s2 hB ⊢
    have E1 : Ext T H H1 := .same s2 hT
    by_cases z : partsM xs cs xs.length = []
    · have e0 : showM xs cs = ("nothing" : Str) := by unfold showM; rw [if_pos z]
      rw [e0]
      refine ⟨_, rfl, rfl, true, by decide +kernel, _, rfl, ?_⟩
      rw [← parts_nil fc z] at hB
      exact q H1 B E1 nB0 hB
    · have e0 : showM xs cs = Str.join (", " : Str) (partsM xs cs xs.length) := by unfold showM; rw [if_neg z]
      have ne0 := joined_other z
      refine ⟨_, rfl, rfl, false, congrArg V.bl (decide_eq_false fun z2 => ?_), ?_⟩
      · have z3 := V.str.inj z2
        rw [e0] at z3
        exact ne0 z3
      refine ⟨_, rfl, ⟨_, rfl⟩, _, _, rfl, rfl, by decide +kernel, szL (by rw [e0]; omega), fun L nL => ?_⟩
      have sp : Txt.split (showM xs cs) (", " : Str) = partsM xs cs xs.length := by rw [e0]; exact join_split g z
      rw [sp]
      have hL : upd H1 L (.lst ((partsM xs cs xs.length).map V.str)) L = some (LS (partsM xs cs xs.length)) := upd_same
      have hB1 := (same_upd (o := .lst ((partsM xs cs xs.length).map V.str)) nL) _ _ hB
      have nL0 : H L = none := E1.free _ nL
      have neLB : L ≠ B := fun e => by rw [e, hB] at nL; cases nL
      have E2 : Ext T H _ := E1.new (o := .lst ((partsM xs cs xs.length).map V.str)) nL0
      generalize upd H1 L (.lst ((partsM xs cs xs.length).map V.str)) = H2 at hL hB1 E2 ⊢
      refine ⟨L, rfl, ⟨_, SqL.of hL⟩, for_list (xs := (partsM xs cs xs.length).map V.str) (fun j σ H' => ∃ y3 y4 y5, σ = [some (.ref a), some (.str (showM xs cs)), some (.ref B), y3, y4, y5] ∧ Ext T H H' ∧ H' L = some (LS (partsM xs cs xs.length)) ∧ ∃ ls : List Int, H' B = some (LI ls) ∧ ls.length = xs.length ∧ ∀ i, i < xs.length → ls[i]? = some (if i ∈ (idxs cs xs.length).take j then cs.getD i 0 else 0)) ⟨none, none, none, rfl, E2, hL, _, hB1, List.length_replicate, fun i hi => ?_⟩ (fun i σ H' _ hp => ?_) (fun j x σ H' hx hp => ?_) (fun σ H' hp => ?_)⟩
      · rw [List.take_zero, if_neg (by simp), List.getElem?_replicate, if_pos hi]
      · obtain ⟨_, _, _, _, _, h, _⟩ := hp
        exact SqL.of h
      · obtain ⟨y3, y4, y5, rfl, E3, hL3, ls, hB3, hls, hat⟩ := hp
        obtain ⟨p, hp, rfl⟩ := of_get_strs hx
        have hpl : j < (partsM xs cs xs.length).length := (List.getElem?_eq_some_iff.mp hp).1
        obtain ⟨i, hi, ei⟩ : ∃ i, (idxs cs xs.length)[j]? = some i ∧ partAt xs cs i = p := by
          unfold partsM at hp
          rw [List.getElem?_map] at hp
          cases e : (idxs cs xs.length)[j]? with
          | none => rw [e] at hp; cases hp
          | some i => rw [e] at hp; exact ⟨i, rfl, Option.some.inj hp⟩
        obtain ⟨i1, i2⟩ := idxs_mem.mp (List.mem_of_getElem? hi)
        obtain ⟨f1, f2, f3⟩ := fc.at i1
        obtain ⟨g1, g2⟩ := name_at i1
        subst ei
        refine ⟨_, rfl, _, rfl, a, xs, i, (cs.getD i 0).toNat, xs.getD i Str.empty, rfl, E3.lst ha, g, g1, by omega, E3.t1, fun H4 tp e4 nt htp => ?_⟩
        refine ⟨tp, _, rfl, SqT.of htp, rfl, _, _, rfl, _, _, rfl, rfl, ?_⟩
        have hB4 := e4.lst hB3
        have hL4 := e4.lst hL3
        refine ⟨_, rfl, _, rfl, _, rfl, B, _, _, i, rfl, rfl, hB4, ixN_nat (by rw [List.length_map]; omega), ?_⟩
        refine ⟨_, _, _, rfl, (E3.trans e4).new nB0, ?_, ls.set i (cs.getD i 0), ?_, by rw [List.length_set]; exact hls, fun i' hi' => ?_⟩
        · rw [upd_ne neLB]
          exact hL4
        · have : (((cs.getD i 0).toNat : Nat) : Int) = cs.getD i 0 := by omega
          rw [this]
          exact at_set
        · rw [take_succ_at hi]
          by_cases e : i' = i
          · subst e
            rw [List.getElem?_set_self (by omega), if_pos (List.mem_append.mpr (.inr List.mem_cons_self))]
          · rw [List.getElem?_set_ne (fun z => e z.symm), hat i' hi']
            by_cases m : i' ∈ (idxs cs xs.length).take j
            · rw [if_pos m, if_pos (List.mem_append.mpr (.inl m))]
            · rw [if_neg m, if_neg fun z => ?_]
              rcases List.mem_append.mp z with z | z
              · exact m z
              · exact e (List.mem_singleton.mp z)
      · obtain ⟨y3, y4, y5, rfl, E3, hL3, ls, hB3, hls, hat⟩ := hp
        have els : ls = cs := by
          refine List.ext_getElem (by rw [hls, fc.len]) fun i h1 h2 => ?_
          have hi : i < xs.length := by omega
          have h3 := hat i hi
          obtain ⟨f1, f2, f3⟩ := fc.at hi
          rw [List.length_map, List.take_of_length_le (by unfold partsM; rw [List.length_map]; exact Nat.le_refl _)] at h3
          rw [List.getElem?_eq_getElem h1] at h3
          rw [List.getElem?_eq_getElem h2] at f1
          have e3 := Option.some.inj h3
          have e1 := Option.some.inj f1
          rw [e3]
          by_cases m : i ∈ idxs cs xs.length
          · rw [if_pos m, e1]
          · rw [if_neg m, e1]
            have : ¬ 0 < cs.getD i 0 := fun z => m (idxs_mem.mpr ⟨hi, z⟩)
            omega
        subst els
        refine ⟨_, rfl, _, rfl, a, B, xs, ls, rfl, E3.lst ha, hB3, g, fc, fun H4 s4 => ?_⟩
        have E4 : Ext T H H4 := E3.trans (.same s4 E3.t1)
        refine ⟨_, rfl, rfl, false, by simp, _, rfl, B, ls, rfl, s4 _ _ hB3, fc.small, by rw [hls]; exact few, true, by rw [decide_eq_true hb], ?_⟩
        exact ⟨_, rfl, q H4 B E4 nB0 (s4 _ _ hB3)⟩
end
/-! ### _law_pop -/
abbrev s_law_pop : Stmt := topS 15
abbrev N_law_pop : List Str := ["_law_draws_here"]
theorem sc_law_pop : FnScope N_law_pop ["_law_draws_here"] (defScope s_law_pop) := ⟨rfl, rfl, rfl, by decide +kernel, rfl, by decide +kernel, by decide +kernel⟩

def sp_pop : Sp := fun vs H Q _ => ∃ (a : Addr) (ns : List Int), vs = [.ref a] ∧ H a = some (LI ns) ∧ ∀ H', SameBut a H H' → H' a = some (LI ns.tail) → Q (.int (ns.headD 0)) H'
section
variable {P : Program} {w : World} {K : PySem.W.Frag} {mg : Str → Option Value} {base : Heap}
theorem ok_pop {f : Addr} {fd : FuncData} {k : Nat} (D : Def K mg "_law_pop" s_law_pop ["_law_draws_here"] f fd) : FnOk P w K mg base CX0 (k + 1) f fd ["_law_draws_here"] sp_pop := by
  refine D.F.ok sc_law_pop (fun vs H Q E h => ?_) (fun cdv A outer s H vs Q E hr h => ?_)
  · obtain ⟨a, ns, rfl, _⟩ := h
    rfl
  · obtain ⟨a, ns, rfl, ha, q⟩ := h
    refine ⟨_, (pss_cons (ps_if (pt_cmpR (op_eqD hr.units) (pv 0) (pe_lst pa_nil) (nomark _))
   (pss_one (ps_ret pe_int))
   pss_nil)
  (pss_one (ps_ret (pe_bm PySem.F.plainAttrs_list PySem.F.slot_list_pop PySem.F.type_list_pop mt_popAt (pv 0) (pa_cons pe_int pa_nil))))), ?_⟩
    refine ⟨.ref a, rfl, Nat.zero_le _, fun p np => ?_⟩
    have ne : a ≠ p := ne_of_none ha np
    have ha1 : upd H p (.lst []) a = some (LI ns) := by rw [upd_ne ne]; exact ha
    have s1 : SameBut a H (upd H p (.lst [])) := .of (same_upd np)
    refine ⟨_, _, dp_ints (SqL.of ha1), dp_ints (ns := []) (SqL.of upd_same), shaped_ints _, shaped_ints _, _, rfl, ite2 (fun e => ?_) (fun e => ?_)⟩
    · rw [eqv_ints] at e
      have e2 : ns = [] := of_decide_eq_true e
      subst e2
      exact q _ s1 ha1
    · rw [eqv_ints] at e
      cases ns with
      | nil => exact absurd (decide_eq_true rfl) e
      | cons n r =>
        refine ⟨.ref a, rfl, .inl ⟨rfl, _, SqL.of ha1⟩, a, _, 0, 0, .int n, rfl, rfl, ha1, by decide, by decide, ?_, rfl, ?_⟩
        · rw [List.length_map, List.length_cons]
          exact (ixN_seq (ixN_nat (Nat.succ_pos _))).1
        · exact q _ (s1.trans .upd) upd_same
end
/-! ### _law_cases -/
abbrev s_law_cases : Stmt := topS 19
abbrev N_law_cases : List Str := ["_law_want_here", "_law_found", "_law_number"]
theorem sc_law_cases : FnScope N_law_cases ["_law_want_here"] (defScope s_law_cases) := ⟨rfl, rfl, rfl, by decide +kernel, rfl, by decide +kernel, by decide +kernel⟩

def casesM (ws : List Int) : Int := ws.foldl (fun p w => p * (w + 1)) 1
theorem casesM_take {ws : List Int} {i : Nat} {x : Int} (h : ws[i]? = some x) : casesM (ws.take (i + 1)) = casesM (ws.take i) * (x + 1) := by
  unfold casesM
  rw [take_succ_at h, List.foldl_append]
  rfl
def sp_cases (K : PySem.W.Frag) : Sp := fun vs H Q _ => ∃ (a : Addr) (ws : List Int), vs = [.ref a] ∧ SqL K H a (ws.map V.int) ∧ (∀ w ∈ ws, -1000000 ≤ w ∧ w ≤ 1000000) ∧ Q (.int (casesM ws)) H
section
variable {P : Program} {w : World} {K : PySem.W.Frag} {mg : Str → Option Value} {base : Heap}
theorem ok_cases {f : Addr} {fd : FuncData} {k : Nat} (D : Def K mg "_law_cases" s_law_cases ["_law_want_here"] f fd) : FnOk P w K mg base CX0 (k + 1) f fd ["_law_want_here"] (sp_cases K) := by
  refine D.F.ok sc_law_cases (fun vs H Q E h => ?_) (fun cdv A outer s H vs Q E hr h => ?_)
  · obtain ⟨a, ns, rfl, _⟩ := h
    rfl
  · obtain ⟨a, ws, rfl, ha, hw, q⟩ := h
    refine ⟨_, (pss_cons (ps_set (i := 1) sc_law_cases.nd rfl (Or.inl rfl) pe_int)
  (pss_cons (ps_for PassesOwn.never rfl (pi_list (pv 0)) (pg_name (i := 2) sc_law_cases.nd rfl (Or.inl rfl))
   (pss_one (ps_set (i := 1) sc_law_cases.nd rfl (Or.inl rfl) (pe_op op_mul (pv 1) (pe_op op_add (pv 2) pe_int)))))
  (pss_one (ps_ret (pv 1))))), ?_⟩
    refine ⟨.ref a, rfl, a, rfl, ⟨_, ha⟩, for_list (xs := ws.map V.int) (fun i σ H' => ∃ y, σ = [some (.ref a), some (.int (casesM (ws.take i))), y] ∧ H' = H) ⟨none, rfl, rfl⟩ (fun i σ H' _ hp => ?_) (fun i x σ H' hx hp => ?_) (fun σ H' hp => ?_)⟩
    · obtain ⟨y, _, rfl⟩ := hp
      exact ha
    · obtain ⟨y, rfl, rfl⟩ := hp
      obtain ⟨n, hn, rfl⟩ := of_get_ints hx
      have b := hw n (List.mem_of_getElem? hn)
      refine ⟨_, rfl, _, rfl, _, _, rfl, rfl, _, _, rfl, rfl, .inr ⟨by omega, by omega⟩, some (.int n), ?_, rfl⟩
      rw [casesM_take hn]
      rfl
    · obtain ⟨y, rfl, rfl⟩ := hp
      refine ⟨_, rfl, ?_⟩
      rw [List.length_map, List.take_length]
      exact q
end
/-! ### _law_draws -/
abbrev s_law_draws : Stmt := topS 14
abbrev N_law_draws : List Str := ["_law_script", "_law_turn", "_law_many", "_law_cells", "_law_found", "_law_k", "_law_left", "_law_place", "_law_number", "_law_at", "_law_cell"]
theorem sc_law_draws : FnScope N_law_draws ["_law_script", "_law_turn", "_law_many"] (defScope s_law_draws) := ⟨rfl, rfl, rfl, by decide +kernel, rfl, by decide +kernel, by decide +kernel⟩

theorem cut_to (ns : List Int) (k : Nat) : cutV (ns.map V.int) none (some (k : Int)) = (ns.take k).map V.int := by
  unfold cutV
  rw [HT.sIx_nat, HT.sIx_none, List.drop_zero, Nat.sub_zero, List.map_take]
  exact (List.take_eq_take_iff).mpr (by omega)
def sp_draws (K : PySem.W.Frag) : Sp := fun vs H Q _ => ∃ (a : Addr) (ns : List Int) (t m : Nat), vs = [.ref a, .int t, .int m] ∧ SqL K H a (ns.map V.int) ∧ ns.length ≤ 1000 ∧ t ≤ 1000 ∧ m ≤ 1000 ∧
  ∀ H' p ds, Same H H' → H p = none → H' p = some (LI ds) → Q (.ref p) H'
section
variable {P : Program} {w : World} {K : PySem.W.Frag} {mg : Str → Option Value} {base : Heap}
theorem ok_draws {f : Addr} {fd : FuncData} {k : Nat} (M : Names mg) (D : Def K mg "_law_draws" s_law_draws ["_law_script", "_law_turn", "_law_many"] f fd) :
    FnOk P w K mg base CX0 (k + 1) f fd ["_law_script", "_law_turn", "_law_many"] (sp_draws K) := by
  refine D.F.ok sc_law_draws (fun vs H Q E h => ?_) (fun cdv A outer s H vs Q E hr h => ?_)
  · obtain ⟨a, ns, t, m, rfl, _⟩ := h
    rfl
  · obtain ⟨a, ns, t, m, rfl, hS, hl, ht, hm, q⟩ := h
    refine ⟨_, (pss_cons (ps_set (i := 3) sc_law_draws.nd rfl (Or.inl rfl) (pe_op op_cat (pe_slice sl_list (pv 0) po_none (po_some pe_int)) (pe_lst (pa_cons (pv 1) pa_nil))))
  (pss_cons (ps_set (i := 4) sc_law_draws.nd rfl (Or.inl rfl) (pe_lst pa_nil))
  (pss_cons (ps_if (pt_cmpR op_eq (pe_op op_mod (pe_op op_fdiv (pe_ix ix_list (pv 3) pe_int (fun _ _ => rfl)) pe_int) pe_int) pe_int (nomark _))
   (pss_cons (ps_setLc (i := 6) (own := [("_law_cell", 10)]) (by rfl) sc_law_draws.nd rfl rfl (sw_true rfl rfl rfl (by decide +kernel)) (pi_list (pv 3)) (blkOk_by (own := [("_law_cell", 10)]) (N := N_law_draws) (sc := defScope s_law_draws) (by decide +kernel)) (fun _ _ _ _ _ => (pg_name (i := 10) sc_law_draws.nd rfl (Or.inl rfl))) (fun _ _ _ _ _ => pts_nil) (fun _ _ _ _ _ => (pe_op op_fdiv (pv 10) pe_int)))
  (pss_cons (ps_for PassesOwn.never rfl (pi_range1 (by rfl) M.range (pa_cons (pe_op op_add (pv 1) (pv 2)) pa_nil)) (pg_name (i := 5) sc_law_draws.nd rfl (Or.inl rfl))
   (pss_cons (ps_set (i := 9) sc_law_draws.nd rfl (Or.inl rfl) (pe_op op_mod (pv 5) (pe_callB call_len_seq (by rfl) M.len (by decide +kernel) (pa_cons (pv 6) pa_nil))))
  (pss_cons (ps_if (pt_cmpR op_ge (pv 5) (pv 1) (nomark _))
   (pss_one (ps_expr (pe_bm PySem.F.plainAttrs_list PySem.F.slot_list_append PySem.F.type_list_append mt_append (pv 4) (pa_cons (pe_op op_mod (pe_ix ix_list (pv 6) (pv 9) (fun _ _ => rfl)) pe_int) pa_nil))))
   pss_nil)
  (pss_one (ps_asg (pe_op op_fdivW (pe_ix ix_list (pv 6) (pv 9) (fun _ _ => rfl)) pe_int) (pg_sub (pv 6) (pv 9) set_list))))))
  (pss_one (ps_ret (pv 4)))))
   pss_nil)
  (pss_cons (ps_for PassesOwn.never rfl (pi_range1 (by rfl) M.range (pa_cons (pv 2) pa_nil)) (pg_name (i := 5) sc_law_draws.nd rfl (Or.inl rfl))
   (pss_cons (ps_set (i := 7) sc_law_draws.nd rfl (Or.inl rfl) (pe_op op_add (pe_op op_mul (pe_op op_mul (pe_op op_add (pv 5) (pv 1)) (pe_op op_add (pv 5) (pv 1))) pe_int) pe_int))
  (pss_cons (ps_set (i := 8) sc_law_draws.nd rfl (Or.inl rfl) (pe_op op_mod (pe_op op_mul (pe_op op_add (pe_op op_mod (pe_ix ix_list (pv 3) (pe_op op_mod (pv 5) (pe_callB call_len_seq (by rfl) M.len (by decide +kernel) (pa_cons (pv 3) pa_nil))) (fun _ _ => rfl)) pe_int) (pv 7)) pe_int) pe_int))
  (pss_cons (ps_set (i := 8) sc_law_draws.nd rfl (Or.inl rfl) (pe_op op_mod (pe_op op_add (pe_op op_mul (pv 8) (pv 8)) (pe_op op_mul pe_int (pv 5))) pe_int))
  (pss_one (ps_expr (pe_bm PySem.F.plainAttrs_list PySem.F.slot_list_append PySem.F.type_list_append mt_append (pv 4) (pa_cons (pe_op op_mod (pe_op op_mul (pv 8) (pv 8)) pe_int) pa_nil))))))))
  (pss_one (ps_ret (pv 4))))))), ?_⟩
    refine ⟨.ref a, rfl, 63, rfl, a, ns.map V.int, rfl, hS, fun c nc => ?_⟩
    refine ⟨.int t, rfl, by show 1 ≤ sizeLine; decide, fun u nu => ?_⟩
    have hcu : c ≠ u := ne_of_none upd_same nu
    have hc : (upd (upd H c (.lst (cutV (ns.map V.int) none (some 63)))) u (.lst [.int (t : Int)])) c = some (.lst (cutV (ns.map V.int) none (some 63))) := by
      rw [upd_ne hcu]
      exact upd_same
    have hlen := cutV_length (ns.map V.int) none (some 63)
    rw [List.length_map] at hlen
    refine ⟨c, u, _, _, rfl, rfl, hc, upd_same, szL (by rw [show ([V.int (t : Int)] : List V).length = 1 from rfl]; omega), fun e ne => ?_⟩
    obtain ⟨cs, ecs, hcs1, hcs2⟩ : ∃ cs : List Int, cutV (ns.map V.int) none (some 63) ++ [V.int (t : Int)] = cs.map V.int ∧ 0 < cs.length ∧ cs.length ≤ 2000 := by
      refine ⟨ns.take 63 ++ [(t : Int)], ?_, ?_, ?_⟩
      · rw [show (63 : Int) = ((63 : Nat) : Int) from rfl, cut_to, List.map_append]
        rfl
      · rw [List.length_append]
        exact Nat.succ_pos _
      · rw [List.length_append, List.length_take, List.length_singleton]
        omega
    have s1 : Same H (upd (upd (upd H c (.lst (cutV (ns.map V.int) none (some 63)))) u (.lst [.int (t : Int)])) e (.lst (cutV (ns.map V.int) none (some 63) ++ [.int (t : Int)]))) :=
      ((same_upd nc).trans (same_upd nu)).trans (same_upd ne)
    have he1 : (upd (upd (upd H c (.lst (cutV (ns.map V.int) none (some 63)))) u (.lst [.int (t : Int)])) e (.lst (cutV (ns.map V.int) none (some 63) ++ [.int (t : Int)]))) e = some (LI cs) := by
      rw [upd_same, ecs]
    generalize (upd (upd (upd H c (.lst (cutV (ns.map V.int) none (some 63)))) u (.lst [.int (t : Int)])) e (.lst (cutV (ns.map V.int) none (some 63) ++ [.int (t : Int)]))) = H1 at s1 he1 ⊢
    -- found = []
    refine ⟨Nat.zero_le _, fun o no => ?_⟩
    have hoe : e ≠ o := ne_of_none he1 no
    have s2 : Same H (upd H1 o (.lst [])) := s1.trans (same_upd no)
    have noH : H o = none := s1.free no
    have he2 : (upd H1 o (.lst [])) e = some (LI cs) := by rw [upd_ne hoe]; exact he1
    have ho2 : (upd H1 o (.lst [])) o = some (LI []) := upd_same
    generalize (upd H1 o (.lst [])) = H2 at s2 he2 ho2 ⊢
    -- cells[0] // 50000 % 2 == 1
    refine ⟨.ref e, rfl, e, _, 0, .int cs[0], rfl, rfl, SqL.of he2, atI_nat (j := 0) (getD_ints hcs1), _, _, rfl, rfl, ⟨by decide, by decide⟩, _, _, rfl, rfl, (by show (0 : Int) < _; decide), rfl, _, rfl, ite2 (fun _ => ?_) (fun _ => ?_)⟩
    · -- left = [cell // 100000 for cell in cells]
      refine ⟨.ref e, rfl, e, rfl, ⟨_, SqL.of he2⟩, fun B nB => lc_list (xs := cs.map V.int) (fun i H' => Same H2 H' ∧ ∃ ls : List Int, H' B = some (LI ls) ∧ ls.length = i) ⟨same_upd nB, [], upd_same, rfl⟩ (fun i H' _ hp => SqL.of (hp.1 _ _ he2)) (fun i x H' hx hp => ?_) (fun H3 hp => ?_)⟩
      · obtain ⟨s3, ls, hB, hls⟩ := hp
        obtain ⟨n, hn, rfl⟩ := of_get_ints hx
        have hi : i < cs.length := (List.getElem?_eq_some_iff.mp hn).1
        refine ⟨rfl, _, rfl, _, _, rfl, rfl, ⟨by decide, by decide⟩, _, hB, szL' (by rw [List.length_map]; omega), sm_new s3 nB, ls ++ [n / 100000], ?_, by rw [List.length_append, hls]; rfl⟩
        exact at_app
      · obtain ⟨s3, ls, hB, hls⟩ := hp
        rw [List.length_map] at hls
        have s3' := s2.trans s3
        have ho3 := s3 _ _ ho2
        have noB : o ≠ B := ne_of_none ho2 nB
        have nBH : H B = none := s2.free nB
        -- for k in range(turn + many)
        refine ⟨_, rfl, _, rfl, _, _, rfl, rfl, _, rfl, by omega, by omega, for_range (n := ((t : Int) + (m : Int)).toNat) (fun i σ H' => ∃ y5 y9, σ = [some (.ref a), some (.int t), some (.int m), some (.ref e), some (.ref o), y5, some (.ref B), none, none, y9, none] ∧ Same H H' ∧
          (∃ ds : List Int, H' o = some (LI ds) ∧ ds.length ≤ i) ∧ ∃ ls : List Int, H' B = some (LI ls) ∧ ls.length = cs.length) ⟨none, none, rfl, s3', ⟨[], ho3, Nat.zero_le _⟩, ls, hB, hls⟩ (fun i σ H4 hi hp => ?_) (fun σ H4 hp => ?_)⟩
        · obtain ⟨y5, y9, rfl, s4, ⟨ds, ho4, hds⟩, ls, hB4, hls⟩ := hp
          obtain ⟨j, hj, ej⟩ := mod_at (i := (0 : Int) + (i : Nat)) (n := (ls.map V.int).length) (by rw [List.length_map]; omega)
          rw [List.length_map] at hj
          refine ⟨_, rfl, _, rfl, B, _, rfl, .inl (SqL.of hB4), _, _, rfl, rfl, by rw [List.length_map]; omega, ?_⟩
          refine ⟨_, rfl, _, rfl, _, _, rfl, rfl, _, rfl, ite2 (fun _ => ?_) (fun _ => ?_)⟩
          · refine ⟨_, rfl, .inl ⟨rfl, _, SqL.of ho4⟩, _, rfl, _, rfl, B, _, _, _, rfl, rfl, SqL.of hB4, at_of ej (getD_ints hj), _, _, rfl, rfl, (by show (0 : Int) < _; decide), o, _, _, rfl, rfl, ho4, szL' (by rw [List.length_map]; omega), ?_⟩
            have hB5 : upd H4 o (.lst (ds.map V.int ++ [V.int (ls[j] % 2147483587)])) B = some (LI ls) := by rw [upd_ne noB.symm]; exact hB4
            refine ⟨_, rfl, _, rfl, B, _, _, _, rfl, rfl, SqL.of hB5, at_of ej (getD_ints hj), _, _, rfl, rfl, wide_div (b := 32) (by decide) (by decide) (by decide) (by decide), _, rfl, _, rfl, B, _, _, j, rfl, rfl, hB5, by rw [ej, List.length_map]; exact ixN_nat hj, ?_⟩
            refine ⟨_, _, rfl, sm_new (sm_new s4 noH) nBH, ⟨ds ++ [ls[j] % 2147483587], ?_, by rw [List.length_append, List.length_singleton]; omega⟩, ls.set j (ls[j] / 2147483587), ?_, by rw [List.length_set]; exact hls⟩
            · rw [upd_ne noB]
              exact at_app
            · exact at_set
          · refine ⟨_, rfl, _, rfl, B, _, _, _, rfl, rfl, SqL.of hB4, at_of ej (getD_ints hj), _, _, rfl, rfl, wide_div (b := 32) (by decide) (by decide) (by decide) (by decide), _, rfl, _, rfl, B, _, _, j, rfl, rfl, hB4, by rw [ej, List.length_map]; exact ixN_nat hj, ?_⟩
            refine ⟨_, _, rfl, sm_new s4 nBH, ⟨ds, ?_, by omega⟩, ls.set j (ls[j] / 2147483587), ?_, by rw [List.length_set]; exact hls⟩
            · rw [upd_ne noB]
              exact ho4
            · exact at_set
        · obtain ⟨y5, y9, rfl, s4, ⟨ds, ho4, hds⟩, _⟩ := hp
          exact ⟨_, rfl, q H4 o ds s4 noH ho4⟩
    · -- for k in range(many)
      refine ⟨_, rfl, _, rfl, by omega, by omega, for_range (n := (m : Int).toNat) (fun i σ H' => ∃ y5 y7 y8, σ = [some (.ref a), some (.int t), some (.int m), some (.ref e), some (.ref o), y5, none, y7, y8, none, none] ∧ Same H H' ∧ H' e = some (LI cs) ∧
        (∃ ds : List Int, H' o = some (LI ds) ∧ ds.length ≤ i)) ⟨none, none, none, rfl, s2, he2, [], ho2, Nat.zero_le _⟩ (fun i σ H4 hi hp => ?_) (fun σ H4 hp => ?_)⟩
      · obtain ⟨y5, y7, y8, rfl, s4, he4, ds, ho4, hds⟩ := hp
        have hi2 : i < m := by omega
        obtain ⟨j, hj, ej⟩ := mod_at (i := (0 : Int) + (i : Nat)) (n := (cs.map V.int).length) (by rw [List.length_map]; omega)
        rw [List.length_map] at hj
        -- place
        refine ⟨_, rfl, _, rfl, _, _, rfl, rfl, _, rfl, _, rfl, _, _, rfl, rfl, _, _, rfl, rfl, .inl ⟨by omega, by omega⟩, _, _, rfl, rfl, .inr ⟨by decide, by decide⟩, _, _, rfl, rfl, ?_⟩
        -- number
        refine ⟨_, rfl, _, rfl, _, rfl, e, _, rfl, .inl (SqL.of he4), _, _, rfl, rfl, by rw [List.length_map]; omega, e, _, _, _, rfl, rfl, SqL.of he4, at_of ej (getD_ints hj), _, _, rfl, rfl, (by show (0 : Int) < _; decide), _, rfl, _, _, rfl, rfl, _, _, rfl, rfl, .inr ⟨by decide, by decide⟩, _, _, rfl, rfl, (by show (0 : Int) < _; decide), ?_⟩
        have mb : ∀ z : Int, -(2 ^ 64) < z % 2147483647 ∧ z % 2147483647 < 2 ^ 64 := fun z => by omega
        have mb2 : ∀ z : Int, -(2 ^ 64) < z % 2147483629 ∧ z % 2147483629 < 2 ^ 64 := fun z => by omega
        refine ⟨_, rfl, _, rfl, _, _, rfl, rfl, .inl (mb _), _, rfl, _, _, rfl, rfl, .inl ⟨by decide, by decide⟩, _, _, rfl, rfl, _, _, rfl, rfl, (by show (0 : Int) < _; decide), ?_⟩
        refine ⟨_, rfl, .inl ⟨rfl, _, SqL.of ho4⟩, _, rfl, _, rfl, _, _, rfl, rfl, .inl (mb2 _), _, _, rfl, rfl, (by show (0 : Int) < _; decide), o, _, _, rfl, rfl, ho4, szL' (by rw [List.length_map]; omega), ?_⟩
        refine ⟨_, _, _, rfl, sm_new s4 noH, ?_, _, at_app, by rw [List.length_append, List.length_singleton]; omega⟩
        rw [upd_ne hoe]
        exact he4
      · obtain ⟨y5, y7, y8, rfl, s4, _, ds, ho4, hds⟩ := hp
        exact ⟨_, rfl, q H4 o ds s4 noH ho4⟩
end
/-! ### _law_want -/
abbrev s_law_want : Stmt := topS 18
abbrev N_law_want : List Str := ["_law_draws_here", "_law_many", "_law_number", "_law_found", "_law_k"]
theorem sc_law_want : FnScope N_law_want ["_law_draws_here", "_law_many"] (defScope s_law_want) := ⟨rfl, rfl, rfl, by decide +kernel, rfl, by decide +kernel, by decide +kernel⟩

theorem menu8 {j : Nat} (h : j < 8) : ∃ v : Int, ([V.int 0, V.int 1, V.int 2, V.int 9, V.int 4, V.int 5, V.int 3, V.int 1] : List V)[j]? = some (.int v) ∧ 0 ≤ v ∧ v ≤ 9 :=
  match j, h with
  | 0, _ => ⟨0, rfl, by decide, by decide⟩
  | 1, _ => ⟨1, rfl, by decide, by decide⟩
  | 2, _ => ⟨2, rfl, by decide, by decide⟩
  | 3, _ => ⟨9, rfl, by decide, by decide⟩
  | 4, _ => ⟨4, rfl, by decide, by decide⟩
  | 5, _ => ⟨5, rfl, by decide, by decide⟩
  | 6, _ => ⟨3, rfl, by decide, by decide⟩
  | 7, _ => ⟨1, rfl, by decide, by decide⟩
theorem shl_ok {i : Nat} (h : i < 4) : (0 : Int) < 1 * 2 ^ (3 * (0 + (i : Int))).toNat ∧ (1 : Int) * 2 ^ (3 * (0 + (i : Int))).toNat < 1073741824 :=
  match i, h with
  | 0, _ => by decide
  | 1, _ => by decide
  | 2, _ => by decide
  | 3, _ => by decide
theorem first_at : ∀ {l : List Int} {x : Int}, x ∈ l → ∃ j : Nat, l[j]? = some x ∧ ∀ (m : Nat) y, m < j → l[m]? = some y → y ≠ x
  | a :: r, x, h => by
    by_cases e : a = x
    · subst e
      exact ⟨0, rfl, fun m y hm => absurd hm (Nat.not_lt_zero _)⟩
    · obtain ⟨j, h1, h2⟩ := first_at (l := r) ((List.mem_cons.mp h).resolve_left fun z => e z.symm)
      refine ⟨j + 1, h1, fun m y hm hy => ?_⟩
      cases m with
      | zero =>
        have : a = y := Option.some.inj hy
        rw [← this]
        exact e
      | succ m => exact h2 m y (by omega) hy
theorem casesM_zero : ∀ (ws : List Int) (p : Int), (∀ w ∈ ws, w = 0) → ws.foldl (fun p w => p * (w + 1)) p = p
  | [], _, _ => rfl
  | a :: r, p, h => by
    have e : a = 0 := h a List.mem_cons_self
    subst e
    show r.foldl (fun p w => p * (w + 1)) (p * (0 + 1)) = p
    rw [casesM_zero r _ fun w hw => h w (List.mem_cons_of_mem _ hw)]
    omega
theorem sum_nonneg : ∀ {ws : List Int}, (∀ w ∈ ws, 0 ≤ w) → 0 ≤ ws.sum
  | [], _ => by decide
  | a :: r, h => by
    have h1 := h a List.mem_cons_self
    have h2 := sum_nonneg (ws := r) fun w hw => h w (List.mem_cons_of_mem _ hw)
    rw [List.sum_cons]
    omega
theorem sum_get : ∀ {ws : List Int} {j : Nat} {x : Int}, (∀ w ∈ ws, 0 ≤ w) → ws[j]? = some x → x ≤ ws.sum
  | [], j, x, _, h => by simp at h
  | a :: r, 0, x, hh, h => by
    have e : a = x := Option.some.inj h
    have := sum_nonneg (ws := r) fun w hw => hh w (List.mem_cons_of_mem _ hw)
    rw [List.sum_cons]
    omega
  | a :: r, j + 1, x, hh, h => by
    have h1 := hh a List.mem_cons_self
    have h2 := sum_get (ws := r) (j := j) (x := x) (fun w hw => hh w (List.mem_cons_of_mem _ hw)) h
    rw [List.sum_cons]
    omega
def Small (ws : List Int) : Prop := ∀ w ∈ ws, 0 ≤ w ∧ w ≤ 9
theorem Small.app {ws : List Int} {n : Int} (h : Small ws) (h1 : 0 ≤ n) (h2 : n ≤ 9) : Small (ws ++ [n]) := fun w hw => by
  rcases List.mem_append.mp hw with z | z
  · exact h w z
  · rw [List.mem_singleton.mp z]
    exact ⟨h1, h2⟩
theorem Small.big {ws : List Int} (h : Small ws) : ∀ w ∈ ws, -1000000 ≤ w ∧ w ≤ 1000000 := fun w hw => by
  have := h w hw
  omega
def sp_want : Sp := fun vs H Q _ => ∃ (a : Addr) (ns : List Int) (m : Nat), vs = [.ref a, .int m] ∧ H a = some (LI ns) ∧ 1 ≤ m ∧ m ≤ 4 ∧
  ∀ H' p ws ns', SameBut a H H' → H p = none → p ≠ a → H' p = some (LI ws) → H' a = some (LI ns') → ws.length = m → Small ws → casesM ws ≤ 400 → Q (.ref p) H'
section
variable {P : Program} {w : World} {K : PySem.W.Frag} {mg : Str → Option Value} {base : Heap}
theorem ok_want {f fp fc : Addr} {fd fdp fdc : FuncData} {k : Nat} (M : Names mg) (D : Def K mg "_law_want" s_law_want ["_law_draws_here", "_law_many"] f fd) (D_law_pop : Def K mg "_law_pop" s_law_pop ["_law_draws_here"] fp fdp) (D_law_cases : Def K mg "_law_cases" s_law_cases ["_law_want_here"] fc fdc) :
    FnOk P w K mg base CX0 (k + 2) f fd ["_law_draws_here", "_law_many"] sp_want := by
  have G_law_pop : FnOk P w K mg base CX0 (k + 1) fp fdp ["_law_draws_here"] sp_pop := ok_pop D_law_pop
  have G_law_cases : FnOk P w K mg base CX0 (k + 1) fc fdc ["_law_want_here"] (sp_cases K) := ok_cases D_law_cases
  refine D.F.ok sc_law_want (fun vs H Q E h => ?_) (fun cdv A outer s H vs Q E hr h => ?_)
  · obtain ⟨a, ns, m, rfl, _⟩ := h
    rfl
  · obtain ⟨a, ns, m, rfl, ha, hm1, hm4, q⟩ := h
    refine ⟨_, (pss_cons (ps_set (i := 2) sc_law_want.nd rfl (Or.inr rfl) (pe_call G_law_pop hr (by rfl) D_law_pop.g D_law_pop.F.kp D_law_pop.b .nil pass0 (pa_cons (pv 0) pa_nil)))
  (pss_cons (ps_setLc (i := 3) (own := [("_law_k", 4)]) (by rfl) sc_law_want.nd rfl rfl (sw_true rfl rfl rfl (by decide +kernel)) (pi_range1 (by rfl) M.range (pa_cons (pv 1) pa_nil)) (blkOk_by (own := [("_law_k", 4)]) (N := N_law_want) (sc := defScope s_law_want) (by decide +kernel)) (fun _ _ _ _ _ => (pg_name (i := 4) sc_law_want.nd rfl (Or.inl rfl))) (fun _ _ _ _ _ => pts_nil) (fun _ _ _ _ _ => (pe_ix (ix_listK (K := K) rfl) (pe_lst (pa_cons pe_int (pa_cons pe_int (pa_cons pe_int (pa_cons pe_int (pa_cons pe_int (pa_cons pe_int (pa_cons pe_int (pa_cons pe_int pa_nil))))))))) (pe_op op_mod (pe_op op_fdiv (pv 2) (pe_op op_shl pe_int (pe_op op_mul pe_int (pv 4)))) pe_int) (fun _ _ => rfl))))
  (pss_cons (ps_if (pt_cmpR op_eq (pe_op op_mod (pe_op op_fdiv (pv 2) pe_int) pe_int) pe_int (nomark _))
   (pss_one (ps_setLc (i := 3) (own := [("_law_k", 4)]) (by rfl) sc_law_want.nd rfl rfl (sw_true rfl rfl rfl (by decide +kernel)) (pi_range1 (by rfl) M.range (pa_cons (pv 1) pa_nil)) (blkOk_by (own := [("_law_k", 4)]) (N := N_law_want) (sc := defScope s_law_want) (by decide +kernel)) (fun _ _ _ _ _ => (pg_name (i := 4) sc_law_want.nd rfl (Or.inl rfl))) (fun _ _ _ _ _ => pts_nil) (fun _ _ _ _ _ => (pe_op op_mod (pe_call G_law_pop hr (by rfl) D_law_pop.g D_law_pop.F.kp D_law_pop.b .nil pass0 (pa_cons (pv 0) pa_nil)) pe_int))))
   pss_nil)
  (pss_cons (ps_while PassesOwn.never (pt_cmpR op_gt (pe_call G_law_cases hr (by rfl) D_law_cases.g D_law_cases.F.kp D_law_cases.b .nil pass0 (pa_cons (pv 3) pa_nil)) pe_int (nomark _))
   (pss_one (ps_asg (pe_op op_sub (pe_callB (cr_max rfl) (by rfl) M.max (by decide +kernel) (pa_cons (pv 3) pa_nil)) pe_int) (pg_sub (pv 3) (pe_bm PySem.F.plainAttrs_list PySem.F.slot_list_index PySem.F.type_list_index mt_index (pv 3) (pa_cons (pe_callB (cr_max rfl) (by rfl) M.max (by decide +kernel) (pa_cons (pv 3) pa_nil)) pa_nil)) set_list))))
  (pss_one (ps_ret (pv 3))))))), ?_⟩
    -- number = pop(draws)
    refine ⟨.ref a, rfl, a, ns, rfl, ha, fun H1 s1 h1 => ?_⟩
    generalize ns.headD 0 = n0
    generalize ns.tail = ns1 at h1
    -- the menu
    refine ⟨_, rfl, _, rfl, by omega, by omega, fun B nB => lc_range (lo := 0) (n := (m : Int).toNat) (fun i H' => SameBut a H H' ∧ H' a = some (LI ns1) ∧ ∃ ws, H' B = some (LI ws) ∧ ws.length = i ∧ Small ws) ?_ (fun i H' hi hp => ?_) (fun H2 hp => ?_)⟩
    · have nBa : a ≠ B := ne_of_none h1 nB
      refine ⟨?_, ?_, [], upd_same, rfl, fun w hw => nomatch hw⟩
      · exact s1.new (s1.free nB (by rw [h1]; exact fun z => nomatch z))
      · rw [upd_ne nBa]
        exact h1
    · have nBa : a ≠ B := ne_of_none h1 nB
      have nBH : H B = none := s1.free nB (by rw [h1]; exact fun z => nomatch z)
      obtain ⟨s2, h2, ws, hB, hl, sm⟩ := hp
      have hi4 : i < 4 := by omega
      refine ⟨rfl, by show 8 ≤ sizeLine; decide, fun p np => ?_⟩
      have npB : B ≠ p := ne_of_none hB np
      have npa : a ≠ p := ne_of_none h2 np
      obtain ⟨j, hj, ej⟩ := mod_at (i := n0 / (1 * 2 ^ (3 * (0 + (i : Int))).toNat)) (n := 8) (by decide)
      obtain ⟨v, hv, hv1, hv2⟩ := menu8 hj
      refine ⟨_, rfl, _, rfl, _, _, rfl, rfl, .inl ⟨by decide, by decide⟩, _, _, rfl, rfl, ⟨by omega, by omega, by decide⟩, _, _, rfl, rfl, shl_ok hi4, _, _, rfl, rfl, (by show (0 : Int) < _; decide), p, _, _, _, rfl, rfl, SqL.of upd_same, at_of ej hv, ?_⟩
      have hB2 : (upd H' p (.lst [V.int 0, V.int 1, V.int 2, V.int 9, V.int 4, V.int 5, V.int 3, V.int 1])) B = some (LI ws) := by rw [upd_ne npB]; exact hB
      refine ⟨_, hB2, szL' (by rw [List.length_map]; omega), ?_, ?_, _, at_app, by rw [List.length_append, hl]; rfl, sm.app hv1 hv2⟩
      · exact (s2.new (s2.free np (by rw [h2]; exact fun z => nomatch z))).new nBH
      · rw [upd_ne nBa, upd_ne npa]
        exact h2
    · have nBa : a ≠ B := ne_of_none h1 nB
      have nBH : H B = none := s1.free nB (by rw [h1]; exact fun z => nomatch z)
      obtain ⟨s2, h2, ws, hB, hl, sm⟩ := hp
      -- the end: while and return, from any found list
      have fin : ∀ (L : Addr) (σ : L2.St) (H3 : Hp), σ = [some (.ref a), some (.int m), some (.int n0), some (.ref L), none] → H L = none → a ≠ L → SameBut a H H3 → (∃ ns3, H3 a = some (LI ns3)) → (∃ ws, H3 L = some (LI ws) ∧ ws.length = m ∧ Small ws) →
          ∃ W : Nat → L2.St → Hp → Prop, (∃ μ, W μ σ H3) ∧ ∀ μ σ H4, W μ σ H4 → ∃ ws, W μ σ H4 ∧ σ = [some (.ref a), some (.int m), some (.int n0), some (.ref L), none] ∧ SameBut a H H4 ∧ (∃ ns3, H4 a = some (LI ns3)) ∧ H4 L = some (LI ws) ∧ ws.length = m ∧ Small ws ∧ μ = ws.sum.toNat ∧
            ∀ ws' : List Int, ws'.length = m → Small ws' → ws'.sum < ws.sum → ∃ μ', μ' < μ ∧ W μ' σ (upd H4 L (LI ws')) := by
        intro L σ H3 eσ nL naL s3 h3 h4
        refine ⟨fun μ σ H4 => ∃ ws, σ = [some (.ref a), some (.int m), some (.int n0), some (.ref L), none] ∧ SameBut a H H4 ∧ (∃ ns3, H4 a = some (LI ns3)) ∧ H4 L = some (LI ws) ∧ ws.length = m ∧ Small ws ∧ μ = ws.sum.toNat, ?_, ?_⟩
        · obtain ⟨ws, e1, e2, e3⟩ := h4
          exact ⟨_, ws, eσ, s3, h3, e1, e2, e3, rfl⟩
        · intro μ σ H4 hW
          obtain ⟨ws, e1, e2, ⟨ns3, e3⟩, e4, e5, e6, e7⟩ := id hW
          refine ⟨ws, hW, e1, e2, ⟨ns3, e3⟩, e4, e5, e6, e7, fun ws' l1 l2 l3 => ⟨_, ?_, ws', e1, e2.new nL, ⟨ns3, ?_⟩, upd_same, l1, l2, rfl⟩⟩
          · have p1 : 0 ≤ ws'.sum := sum_nonneg fun w hw => (l2 w hw).1
            omega
          · rw [upd_ne naL]
            exact e3
      have body : ∀ (L : Addr) (H4 : Hp) (ws : List Int), H L = none → a ≠ L → SameBut a H H4 → (∃ ns3, H4 a = some (LI ns3)) → H4 L = some (LI ws) → ws.length = m → Small ws → casesM ws > 400 →
          ∀ mx : Int, mx ∈ ws → (∀ y, y ∈ ws → y ≤ mx) → ∃ j : Nat, ws[j]? = some mx ∧ (∀ (m' : Nat) (z' : V), m' < j → (ws.map V.int)[m']? = some z' → eqV z' (.int mx) = false) ∧ j < ws.length ∧ (ws.set j (mx - 1)).length = m ∧ Small (ws.set j (mx - 1)) ∧ (ws.set j (mx - 1)).sum < ws.sum := by
        intro L H4 ws nL naL s4 h3 h4 hl sm hc mx hmx hle
        obtain ⟨j, h1, h2⟩ := first_at hmx
        have pos : 1 ≤ mx := by
          rcases Int.lt_or_le mx 1 with z | z
          · have e : casesM ws = 1 := casesM_zero ws 1 fun w hw => by
              have a1 := hle w hw
              have a2 := sm w hw
              omega
            omega
          · exact z
        have b := sm mx hmx
        refine ⟨j, h1, fun m' z' hm hz => ?_, (List.getElem?_eq_some_iff.mp h1).1, by rw [List.length_set]; exact hl, fun w hw => ?_, ?_⟩
        · obtain ⟨y, hy, rfl⟩ := of_get_ints hz
          have := h2 m' y hm hy
          show (y == mx) = false
          exact beq_eq_false_iff_ne.mpr this
        · rcases List.mem_or_eq_of_mem_set hw with z | z
          · exact sm w z
          · omega
        · rw [sum_set h1]
          omega
      -- number // 4096 % 4 == 0
      refine ⟨_, rfl, _, _, rfl, rfl, ⟨by decide, by decide⟩, _, _, rfl, rfl, (by show (0 : Int) < _; decide), rfl, _, rfl, ite2 (fun _ => ?_) (fun _ => ?_)⟩
      · refine ⟨_, rfl, _, rfl, by omega, by omega, fun L nL => lc_range (lo := 0) (n := (m : Int).toNat) (fun i H' => SameBut a H H' ∧ (∃ ns3, H' a = some (LI ns3)) ∧ ∃ ws, H' L = some (LI ws) ∧ ws.length = i ∧ Small ws) ?_ (fun i H' hi hp => ?_) (fun H3 hp => ?_)⟩
        · have naL : a ≠ L := ne_of_none h2 nL
          refine ⟨s2.new (s2.free nL (by rw [h2]; exact fun z => nomatch z)), ⟨ns1, ?_⟩, [], upd_same, rfl, fun w hw => nomatch hw⟩
          rw [upd_ne naL]
          exact h2
        · have naL : a ≠ L := ne_of_none h2 nL
          have nLH : H L = none := s2.free nL (by rw [h2]; exact fun z => nomatch z)
          obtain ⟨s3, ⟨ns3, h3⟩, ws, hL, hl, sm⟩ := hp
          refine ⟨rfl, .ref a, rfl, a, ns3, rfl, h3, fun H5 s5 h5 => ⟨_, _, rfl, rfl, (by show (0 : Int) < _; decide), _, s5 L _ naL.symm hL, szL' (by rw [List.length_map]; omega), ?_⟩⟩
          refine ⟨(s3.trans s5).new nLH, ⟨_, by rw [upd_ne naL]; exact h5⟩, _, at_app, by rw [List.length_append, hl]; rfl, sm.app (by omega) (by omega)⟩
        · have naL : a ≠ L := ne_of_none h2 nL
          have nLH : H L = none := s2.free nL (by rw [h2]; exact fun z => nomatch z)
          obtain ⟨s3, h3, ws3, hL, hl3, sm3⟩ := hp
          obtain ⟨W, w0, hW⟩ := fin L _ H3 rfl nLH naL s3 h3 ⟨ws3, hL, hl3, sm3⟩
          refine ⟨W, w0, fun μ σ H4 w4 => ?_⟩
          obtain ⟨ws4, _, rfl, s4, ⟨ns4, h4⟩, hL4, hl4, sm4, eμ, step⟩ := hW μ σ H4 w4
          refine ⟨.ref L, rfl, L, ws4, rfl, SqL.of hL4, sm4.big, _, _, rfl, rfl, _, rfl, ite2 (fun c => ?_) (fun c => ?_)⟩
          · have c2 : casesM ws4 > 400 := of_decide_eq_true c
            refine ⟨fun σ' H' => σ' = [some (.ref a), some (.int m), some (.int n0), some (.ref L), none] ∧ ∃ ws' : List Int, ws'.length = m ∧ Small ws' ∧ ws'.sum < ws4.sum ∧ H' = upd H4 L (LI ws'), fun σ' H' hN => ?_, ?_⟩
            · obtain ⟨rfl, ws', l1, l2, l3, rfl⟩ := hN
              exact step ws' l1 l2 l3
            · refine ⟨_, rfl, L, ws4, rfl, SqL.of hL4, by omega, fun mx hmx hle => ⟨_, _, rfl, rfl, _, rfl, _, rfl, .inl ⟨rfl, _, SqL.of hL4⟩, _, rfl, L, ws4, rfl, SqL.of hL4, by omega, fun mx2 hmx2 hle2 => ?_⟩⟩
              have emx : mx2 = mx := Int.le_antisymm (hle mx2 hmx2) (hle2 mx hmx)
              subst emx
              obtain ⟨j, b1, b2, b3, b4, b5, b6⟩ := body L H4 ws4 nLH naL s4 ⟨ns4, h4⟩ hL4 hl4 sm4 c2 mx2 hmx hle
              refine ⟨L, _, _, j, _, rfl, rfl, SqL.of hL4, rfl, by simp [flatV], get_ints b1, by show (mx2 == mx2) = true; exact beq_self_eq_true _, b2, L, _, _, j, rfl, rfl, hL4, by rw [List.length_map]; exact ixN_nat b3, rfl, _, b4, b5, b6, ?_⟩
              rw [← li_set]
          · exact ⟨_, rfl, q H4 L ws4 ns4 s4 nLH naL.symm hL4 h4 hl4 sm4 (Int.not_lt.mp fun z => c (decide_eq_true z))⟩
      · obtain ⟨W, w0, hW⟩ := fin B _ H2 rfl nBH nBa s2 ⟨ns1, h2⟩ ⟨ws, hB, hl, sm⟩
        refine ⟨W, w0, fun μ σ H4 w4 => ?_⟩
        obtain ⟨ws4, _, rfl, s4, ⟨ns4, h4⟩, hL4, hl4, sm4, eμ, step⟩ := hW μ σ H4 w4
        refine ⟨.ref B, rfl, B, ws4, rfl, SqL.of hL4, sm4.big, _, _, rfl, rfl, _, rfl, ite2 (fun c => ?_) (fun c => ?_)⟩
        · have c2 : casesM ws4 > 400 := of_decide_eq_true c
          refine ⟨fun σ' H' => σ' = [some (.ref a), some (.int m), some (.int n0), some (.ref B), none] ∧ ∃ ws' : List Int, ws'.length = m ∧ Small ws' ∧ ws'.sum < ws4.sum ∧ H' = upd H4 B (LI ws'), fun σ' H' hN => ?_, ?_⟩
          · obtain ⟨rfl, ws', l1, l2, l3, rfl⟩ := hN
            exact step ws' l1 l2 l3
          · refine ⟨_, rfl, B, ws4, rfl, SqL.of hL4, by omega, fun mx hmx hle => ⟨_, _, rfl, rfl, _, rfl, _, rfl, .inl ⟨rfl, _, SqL.of hL4⟩, _, rfl, B, ws4, rfl, SqL.of hL4, by omega, fun mx2 hmx2 hle2 => ?_⟩⟩
            have emx : mx2 = mx := Int.le_antisymm (hle mx2 hmx2) (hle2 mx hmx)
            subst emx
            obtain ⟨j, b1, b2, b3, b4, b5, b6⟩ := body B H4 ws4 nBH nBa s4 ⟨ns4, h4⟩ hL4 hl4 sm4 c2 mx2 hmx hle
            refine ⟨B, _, _, j, _, rfl, rfl, SqL.of hL4, rfl, by simp [flatV], get_ints b1, by show (mx2 == mx2) = true; exact beq_self_eq_true _, b2, B, _, _, j, rfl, rfl, hL4, by rw [List.length_map]; exact ixN_nat b3, rfl, _, b4, b5, b6, ?_⟩
            rw [← li_set]
        · exact ⟨_, rfl, q H4 B ws4 ns4 s4 nBH nBa.symm hL4 h4 hl4 sm4 (Int.not_lt.mp fun z => c (decide_eq_true z))⟩
end
/-! ### _law_whole, _law_numbers -/
abbrev s_law_whole : Stmt := topS 16
abbrev N_law_whole : List Str := ["_law_found"]
theorem sc_law_whole : FnScope N_law_whole ["_law_found"] (defScope s_law_whole) := ⟨rfl, rfl, rfl, by decide +kernel, rfl, by decide +kernel, by decide +kernel⟩

abbrev s_law_numbers : Stmt := topS 17
abbrev N_law_numbers : List Str := ["_law_found", "_law_due", "_law_one"]
theorem sc_law_numbers : FnScope N_law_numbers ["_law_found", "_law_due"] (defScope s_law_numbers) := ⟨rfl, rfl, rfl, by decide +kernel, rfl, by decide +kernel, by decide +kernel⟩

def sp_whole : Sp := fun vs H Q _ => ∃ i : Int, vs = [.int i] ∧ Q (.bl true) H
def sp_numbers (K : PySem.W.Frag) : Sp := fun vs H Q _ => ∃ (a b : Addr) (ns : List Int), vs = [.ref a, .ref b] ∧ H a = some (LI ns) ∧ SqL K H b (ns.map V.int) ∧ ∀ H', Same H H' → Q (.bl true) H'
section
variable {P : Program} {w : World} {K : PySem.W.Frag} {mg : Str → Option Value} {base : Heap}
theorem ok_whole {f : Addr} {fd : FuncData} {k : Nat} (M : Names mg) (D : Def K mg "_law_whole" s_law_whole ["_law_found"] f fd) : FnOk P w K mg base CX0 (k + 1) f fd ["_law_found"] sp_whole := by
  refine D.F.ok sc_law_whole (fun vs H Q E h => ?_) (fun cdv A outer s H vs Q E hr h => ?_)
  · obtain ⟨i, rfl, _⟩ := h
    rfl
  · obtain ⟨i, rfl, q⟩ := h
    refine ⟨_, (pss_one (ps_ret (pe_and (pe_callB call_isi (by rfl) M.isinstance (by decide +kernel) (pa_cons (pv 0) (pa_cons (pe_bltn (v := .ty "int") (by rfl) M.int (by decide +kernel) rfl) pa_nil))) (pe_one (pe_not (pe_callB call_isi (by rfl) M.isinstance (by decide +kernel) (pa_cons (pv 0) (pa_cons (pe_bltn (v := .ty "bool") (by rfl) M.bool (by decide +kernel) rfl) pa_nil)))))))), ?_⟩
    refine ⟨_, rfl, _, _, _, _, true, rfl, .ty "int", .base (.int _), kit_ty (by decide +kernel), true, rfl, ?_⟩
    refine ⟨_, rfl, _, _, _, _, false, rfl, .ty "bool", .base (.int _), kit_ty (by decide +kernel), false, rfl, ?_⟩
    exact q
theorem ok_numbers {f fw : Addr} {fd fdw : FuncData} {k : Nat} (M : Names mg) (D : Def K mg "_law_numbers" s_law_numbers ["_law_found", "_law_due"] f fd) (D_law_whole : Def K mg "_law_whole" s_law_whole ["_law_found"] fw fdw) :
    FnOk P w K mg base CX0 (k + 2) f fd ["_law_found", "_law_due"] (sp_numbers K) := by
  have G_law_whole : FnOk P w K mg base CX0 (k + 1) fw fdw ["_law_found"] sp_whole := ok_whole M D_law_whole
  refine D.F.ok sc_law_numbers (fun vs H Q E h => ?_) (fun cdv A outer s H vs Q E hr h => ?_)
  · obtain ⟨a, b, ns, rfl, _⟩ := h
    rfl
  · obtain ⟨a, b, ns, rfl, ha, hb, q⟩ := h
    refine ⟨_, (pss_cons (ps_if (PW.pt (pw_or (pt_not (pt_val (pe_callB call_isi (by rfl) M.isinstance (by decide +kernel) (pa_cons (pv 0) (pa_cons (pe_bltn (v := .ty "list") (by rfl) M.list (by decide +kernel) rfl) pa_nil))))) (pw_or1 (pt_cmpR op_gt (pe_callB call_len_seq (by rfl) M.len (by decide +kernel) (pa_cons (pe_lc (own := [("_law_one", 2)]) (by rfl) sc_law_numbers.nd (pi_list (pv 0)) (blkOk_by (own := [("_law_one", 2)]) (N := N_law_numbers) (sc := defScope s_law_numbers) (by decide +kernel)) (fun _ _ _ _ _ => (pg_name (i := 2) sc_law_numbers.nd rfl (Or.inl rfl))) (fun _ _ _ _ _ => (pts_one (pt_not (pt_val (pe_call G_law_whole hr (by rfl) D_law_whole.g D_law_whole.F.kp D_law_whole.b .nil pass0 (pa_cons (pv 2) pa_nil)))))) (fun _ _ _ _ _ => (pv 2))) pa_nil)) pe_int (nomark _)))))
   (pss_one (ps_ret pe_bl))
   pss_nil)
  (pss_one (ps_ret (pe_cmpR (op_eqD hr.units) (pv 0) (pv 1) (nomark _))))), ?_⟩
    refine ⟨_, rfl, _, _, _, _, true, rfl, .ty "list", .base (.lst ha), kit_ty (by decide +kernel), true, rfl, ?_⟩
    refine ⟨_, rfl, a, rfl, ⟨_, SqL.of ha⟩, fun B nB => lc_list (xs := ns.map V.int) (fun i H' => Same H H' ∧ H' B = some (.lst [])) ⟨same_upd nB, upd_same⟩ (fun i H' _ hp => SqL.of (hp.1 _ _ ha)) (fun i x H' hx hp => ?_) (fun H1 hp => ?_)⟩
    · obtain ⟨n, hn, rfl⟩ := of_get_ints hx
      exact ⟨rfl, _, rfl, n, rfl, true, rfl, hp⟩
    · obtain ⟨s1, h1⟩ := hp
      refine ⟨B, _, rfl, .inl (SqL.of h1), _, _, rfl, rfl, _, rfl, ?_⟩
      refine ⟨_, rfl, _, rfl, _, _, dp_ints (SqL.of (s1 _ _ ha)), dp_ints (s1.seq hb), shaped_ints _, shaped_ints _, ?_⟩
      rw [eqv_ints, decide_eq_true rfl]
      exact q _ s1
end
/-! ### tables through calls -/
theorem tabG_same {H H' : Hp} {T : Addr} (s : Same H H') (h : GxR.TabG H T) : GxR.TabG H' T := by
  obtain ⟨ps, h1, h2⟩ := h
  exact ⟨ps, s _ _ h1, h2⟩
theorem tabG_but {H H' : Hp} {T d : Addr} {xs : List V} (s : SameBut d H H') (hd : H d = some (.lst xs)) (h : GxR.TabG H T) : GxR.TabG H' T := by
  obtain ⟨ps, h1, h2⟩ := h
  exact ⟨ps, s _ _ (ne_of h1 hd (fun z => nomatch z)) h1, h2⟩
theorem tabbed_lst {H H' : Hp} {T a : Addr} {xs : List V} (t : GxR.Tabbed T H H') (hT : GxR.TabG H T) (h : H a = some (.lst xs)) : H' a = some (.lst xs) := by
  obtain ⟨ps, h1, h2⟩ := hT
  rw [t.2 a (ne_of h h1 (fun z => nomatch z))]
  exact h
theorem draw4 (x : Int) : ∃ m : Nat, 1 ≤ m ∧ m ≤ 4 ∧ 1 + x % 4 = (m : Int) := ⟨(1 + x % 4).toNat, by omega, by omega, by omega⟩
/-! ### _law_names, _law_content_text -/
abbrev s_law_names : Stmt := topS 20
abbrev N_law_names : List Str := ["_law_draws_here", "_law_many", "_law_odd", "_law_found", "_law_k", "_law_number", "_law_letters", "_law_name", "_law_j"]
theorem sc_law_names : FnScope N_law_names ["_law_draws_here", "_law_many"] (defScope s_law_names) := ⟨rfl, rfl, rfl, by decide +kernel, rfl, by decide +kernel, by decide +kernel⟩

abbrev s_law_content_text : Stmt := topS 21
abbrev N_law_content_text : List Str := ["_law_names_here", "_law_content", "_law_pieces", "_law_k"]
theorem sc_law_content_text : FnScope N_law_content_text ["_law_names_here", "_law_content"] (defScope s_law_content_text) := ⟨rfl, rfl, rfl, by decide +kernel, rfl, by decide +kernel, by decide +kernel⟩

/-- a text times a number from 2 on -/
theorem op_mulS {X : Cx} : OpR X (binaryOp .Mult) (fun x y H Q => ∃ (c : Nat) (n : Nat), x = .str ⟨#[c]⟩ ∧ y = .int (n : Int) ∧ 2 ≤ n ∧ n ≤ 100 ∧ Q (.str ⟨(List.replicate n #[c]).foldl (· ++ ·) #[]⟩) H) := by
  intro pins s σ H x y v u Q I rx ry h
  obtain ⟨c, n, rfl, rfl, h1, h2, q⟩ := h
  obtain ⟨t, rfl⟩ := rx
  obtain ⟨t', rfl⟩ := ry
  have e1 : (((n : Nat) : Int) == 1) = false := beq_eq_false_iff_ne.mpr (by omega)
  have l1 : (⟨#[c]⟩ : Str).length = 1 := rfl
  refine PySem.P.mul_str (by
    rw [decide_eq_false (by omega), decide_eq_false (by omega)]
    rfl) (fun _ _ => ?_) (fun _ _ => ?_) ?_
  · rw [l1]
    have : ((2 : Int) ^ 63 - 1) / (n : Int) ≥ 1 := by
      refine (Int.le_ediv_iff_mul_le (by omega)).mpr ?_
      omega
    omega
  · rw [l1, Int.toNat_natCast]
    have hz : ¬ (1 * n > sizeLine) := by
      have := sizeLine_eq
      omega
    exact decide_eq_false hz
  · rw [if_neg (by omega), if_neg (by rw [e1, l1]; decide), Int.toNat_natCast]
    refine ⟨?_, .str _, H, I.tok _, ⟨_, rfl⟩, q⟩
    have key : ∀ (m : Nat) (acc : Array Nat), ((List.replicate m #[c]).foldl (· ++ ·) acc).size = acc.size + m := by
      intro m
      induction m with
      | zero => intro acc; rfl
      | succ m ih =>
        intro acc
        rw [List.replicate_succ, List.foldl_cons, ih, Array.size_append]
        show acc.size + 1 + m = _
        omega
    have k2 := key n #[]
    show ((List.replicate n #[c]).foldl (· ++ ·) #[]).size ≤ sizeLine
    rw [k2]
    have := sizeLine_eq
    show 0 + n ≤ sizeLine
    omega

/-- data: lists of texts -/
theorem dpAll_strs {K : PySem.W.Frag} {H : Hp} : ∀ xs : List Str, DpAll K H (xs.map V.str) (xs.map PyData.str)
  | [] => .nil
  | x :: r => .cons (.str x) (dpAll_strs r)
theorem dp_strs {K : PySem.W.Frag} {H : Hp} {a : Addr} {xs : List Str} (h : SqL K H a (xs.map V.str)) : Dp K H (.ref a) (.list (xs.map PyData.str)) := .lst h (dpAll_strs xs)
def Signs (x : Str) : Prop := ∀ c ∈ TL.tl x, c < 256
theorem lay_strs (xs : List Str) (h : ∀ x ∈ xs, Signs x) : PyData.canLayAll0 (xs.map PyData.str) = true := by
  have e : PyData.canLayAll0 (xs.map PyData.str) = xs.all PyData.strOk := by
    induction xs with
    | nil => simp [PyData.canLayAll0]
    | cons x r ih =>
      have := ih fun z hz => h z (List.mem_cons_of_mem _ hz)
      simp [PyData.canLayAll0, PyData.canLay0, this]
  rw [e, List.all_eq_true]
  intro x hx
  unfold PyData.strOk
  rw [← Array.all_toList, List.all_eq_true]
  intro c hc
  have := h x hx c hc
  exact decide_eq_true (by omega)
theorem depth_strs : ∀ xs : List Str, PyData.depthAll (xs.map PyData.str) = 0
  | [] => by simp [PyData.depthAll]
  | x :: r => by
    have ih := depth_strs r
    simp [PyData.depthAll, PyData.depth, ih]
theorem shaped_strs {xs : List Str} (h : ∀ x ∈ xs, Signs x) : SeqAt.shaped (.list (xs.map PyData.str)) = true := by
  unfold SeqAt.shaped
  have h1 : PyData.canLay0 (.list (xs.map PyData.str)) = true := by
    simp only [PyData.canLay0]
    exact lay_strs xs h
  have h2 : PyData.depth (.list (xs.map PyData.str)) ≤ 64 := by
    simp only [PyData.depth]
    rw [depth_strs]
    omega
  rw [h1, decide_eq_true h2]
  rfl
theorem eqv_nil_strs (xs : List Str) : PyData.eqv (.list (xs.map PyData.str)) (.list []) = decide (xs = []) := by
  cases xs with
  | nil => simp [PyData.eqv, PyData.eqvAll]
  | cons x r => simp [PyData.eqv, PyData.eqvAll]

theorem GoodN.signs {xs : List Str} (g : GoodN xs) : ∀ x ∈ xs, Signs x := fun x hx c hc => by
  have := g.small x hx c hc
  omega
theorem part_signs {xs : List Str} {cs : List Int} (g : GoodN xs) {i : Nat} (hi : i < xs.length) : Signs (partAt xs cs i) := fun c hc => by
  unfold partAt at hc
  rw [tl_part] at hc
  rcases List.mem_append.mp hc with z | z
  · have : ¬ (c < 48 ∨ 57 < c) := fun q => TL.numL_free q z
    omega
  · rcases List.mem_cons.mp z with z | z
    · omega
    · have := g.small _ (name_at hi).2 _ z
      omega
def sp_law_text : Sp := fun vs H Q _ => ∃ (a b : Addr) (xs : List Str) (cs : List Int), vs = [.ref a, .ref b] ∧ H a = some (LS xs) ∧ H b = some (LI cs) ∧ GoodN xs ∧ FitC xs cs ∧ ∀ H', Same H H' → Q (.str (showM xs cs)) H'
section
variable {P : Program} {w : World} {K : PySem.W.Frag} {mg : Str → Option Value} {base : Heap} {T : List Addr}
theorem ok_law_text {f : Addr} {fd : FuncData} {k : Nat} (M : Names mg) (D : Def K mg "_law_content_text" s_law_content_text ["_law_names_here", "_law_content"] f fd) : FnOk P w K mg base CX0 (k + 1) f fd ["_law_names_here", "_law_content"] sp_law_text := by
  refine D.F.ok sc_law_content_text (fun vs H Q E h => ?_) (fun cdv A outer s H vs Q E hr h => ?_)
  · obtain ⟨a, b, xs, cs, rfl, _⟩ := h
    rfl
  · obtain ⟨a, b, xs, cs, rfl, ha, hb, g, fc, q⟩ := h
    have few := g.few
    refine ⟨_, (pss_cons (ps_setLc (i := 2) (own := [("_law_k", 3)]) (by rfl) sc_law_content_text.nd rfl rfl (sw_true rfl rfl rfl (by decide +kernel)) (pi_range1 (by rfl) M.range (pa_cons (pe_callB call_len_seq (by rfl) M.len (by decide +kernel) (pa_cons (pv 0) pa_nil)) pa_nil)) (blkOk_by (own := [("_law_k", 3)]) (N := N_law_content_text) (sc := defScope s_law_content_text) (by decide +kernel)) (fun _ _ _ _ _ => (pg_name (i := 3) sc_law_content_text.nd rfl (Or.inl rfl))) (fun _ _ _ _ _ => (pts_one (pt_cmpR op_gt (pe_ix (ix_listK (K := K) rfl) (pv 1) (pv 3) (fun _ _ => rfl)) pe_int (nomark _)))) (fun _ _ _ _ _ => (pe_op op_add_str (pe_op op_add_str (pe_callTy call_str_int (by rfl) M.str (by decide +kernel) (pa_cons (pe_ix (ix_listK (K := K) rfl) (pv 1) (pv 3) (fun _ _ => rfl)) pa_nil)) pe_str) (pe_ix (ix_listK (K := K) rfl) (pv 0) (pv 3) (fun _ _ => rfl)))))
  (pss_cons (ps_if (pt_cmpR (op_eqD hr.units) (pv 2) (pe_lst pa_nil) (nomark _))
   (pss_one (ps_ret pe_str))
   pss_nil)
  (pss_one (ps_ret (pe_join pe_str (pv 2)))))), ?_⟩
    refine ⟨_, rfl, a, _, rfl, .inl (SqL.of ha), _, rfl, by omega, by rw [List.length_map]; omega, fun B nB => lc_range (lo := 0) (n := (((xs.map V.str).length : Nat) : Int).toNat) (fun i H' => Same H H' ∧ H' B = some (LS (partsM xs cs i))) ⟨same_upd nB, upd_same⟩ (fun i H1 hi hp => ?_) (fun H1 hp => ?_)⟩
    · obtain ⟨s1, hB⟩ := hp
      rw [Int.toNat_natCast, List.length_map] at hi
      obtain ⟨f1, f2, f3⟩ := fc.at hi
      obtain ⟨g1, g2⟩ := name_at hi
      have sh := g.short _ g2
      have l1 := num1_len f2 f3
      refine ⟨rfl, _, rfl, _, rfl, b, _, _, _, rfl, rfl, SqL.of (s1 _ _ hb), at_of (Int.zero_add _) (get_ints f1), _, _, rfl, rfl, _, rfl, ite2 (fun c => ?_) (fun c => ?_)⟩
      · have c2 : cs.getD i 0 > 0 := of_decide_eq_true c
        refine ⟨_, rfl, _, rfl, b, _, _, _, rfl, rfl, SqL.of (s1 _ _ hb), at_of (Int.zero_add _) (get_ints f1), _, rfl, small_log f2 f3, _, _, rfl, rfl, szL (by rw [blank_len]; omega), _, rfl, _, rfl, a, _, _, _, rfl, rfl, SqL.of (s1 _ _ ha), at_of (Int.zero_add _) (get_strs g1), _, _, rfl, rfl, szL (by rw [str_len_app, blank_len]; omega), ?_⟩
        refine ⟨_, hB, szL' (by rw [List.length_map]; have := partsM_len xs cs i; omega), sm_new s1 nB, ?_⟩
        have e := fpart f2 (xs.getD i Str.empty)
        rw [str_nil_app] at e
        rw [upd_same, ls_app, partsM_succ, if_pos c2, e]
        rfl
      · have c2 : ¬ cs.getD i 0 > 0 := fun z => c (decide_eq_true z)
        refine ⟨s1, ?_⟩
        rw [partsM_succ, if_neg c2, List.append_nil]
        exact hB
    · obtain ⟨s1, hB⟩ := hp
      rw [Int.toNat_natCast, List.length_map] at hB
      have hl := partsM_len xs cs xs.length
      have pl : ∀ p ∈ partsM xs cs xs.length, p.length ≤ 10 := fun p hp => by
        obtain ⟨i, hi, _, rfl⟩ := parts_all hp
        exact partAt_len g fc hi
      have ps := parts_sum pl
      have sg : ∀ p ∈ partsM xs cs xs.length, Signs p := fun p hp => by
        obtain ⟨i, hi, _, rfl⟩ := parts_all hp
        exact part_signs g hi
      have cl : (", " : Str).length = 2 := by decide +kernel
      refine ⟨_, rfl, by decide, fun e ne => ?_⟩
      have s2 := s1.trans (same_upd (o := .lst []) ne)
      have hB2 := (same_upd (o := .lst []) ne) _ _ hB
      refine ⟨_, .list [], dp_strs (SqL.of hB2), .lst (SqL.of upd_same) .nil, shaped_strs sg, by decide +kernel, _, rfl, ?_⟩
      rw [eqv_nil_strs]
      unfold showM at q
      by_cases z : partsM xs cs xs.length = []
      · rw [if_pos z] at q
        rw [decide_eq_true z]
        exact q _ s2
      · rw [if_neg z] at q
        rw [decide_eq_false z]
        refine ⟨⟨_, rfl⟩, _, rfl, _, B, _, rfl, rfl, .inl (SqL.of hB2), by rw [cl]; omega, ?_⟩
        rw [TL.join_eq]
        exact q _ s2
end
/-! ### the drawn names -/
def rep8 (k : Nat) : Str := ⟨(List.replicate 8 #[97 + k]).foldl (· ++ ·) #[]⟩
theorem tl_rep8 (k : Nat) : TL.tl (rep8 k) = [97 + k, 97 + k, 97 + k, 97 + k, 97 + k, 97 + k, 97 + k, 97 + k] := by
  simp [rep8, TL.tl, List.replicate]
/-- a name that is no eight times one letter -/
structure GoodX (x : Str) : Prop where
  small : ∀ c ∈ TL.tl x, 97 ≤ c ∧ c ≤ 122
  short : x.length ≤ 7
  some : 1 ≤ x.length
def oddW : List Str := ["for", "many", "with", "nothing", "x", "things", "none", "i"]
theorem odd_good : ∀ j, j < 8 → ∃ x, (oddW.map V.str)[j]? = some (.str x) ∧ GoodX x := fun j h =>
  match j, h with
  | 0, _ => ⟨"for", rfl, by decide +kernel, by decide +kernel, by decide +kernel⟩
  | 1, _ => ⟨"many", rfl, by decide +kernel, by decide +kernel, by decide +kernel⟩
  | 2, _ => ⟨"with", rfl, by decide +kernel, by decide +kernel, by decide +kernel⟩
  | 3, _ => ⟨"nothing", rfl, by decide +kernel, by decide +kernel, by decide +kernel⟩
  | 4, _ => ⟨"x", rfl, by decide +kernel, by decide +kernel, by decide +kernel⟩
  | 5, _ => ⟨"things", rfl, by decide +kernel, by decide +kernel, by decide +kernel⟩
  | 6, _ => ⟨"none", rfl, by decide +kernel, by decide +kernel, by decide +kernel⟩
  | 7, _ => ⟨"i", rfl, by decide +kernel, by decide +kernel, by decide +kernel⟩
/-- the names drawn so far -/
structure DrawnN (xs : List Str) : Prop where
  nd : xs.Nodup
  each : ∀ (j : Nat) x, xs[j]? = some x → GoodX x ∨ (x = rep8 j ∧ j < 4)
theorem rep8_letters {k : Nat} (h : k < 4) : ∀ c ∈ TL.tl (rep8 k), 97 ≤ c ∧ c ≤ 122 := fun c hc => by
  rw [tl_rep8] at hc
  simp only [List.mem_cons, List.not_mem_nil, or_false] at hc
  omega
theorem rep8_len (k : Nat) : (rep8 k).length = 8 := by
  rw [TL.len_tl, tl_rep8]
  rfl
theorem DrawnN.good {xs : List Str} (h : DrawnN xs) (hl : xs.length ≤ 4) : GoodN xs := by
  have key : ∀ x ∈ xs, (∀ c ∈ TL.tl x, 97 ≤ c ∧ c ≤ 122) ∧ x.length ≤ 8 ∧ 1 ≤ x.length := fun x hx => by
    obtain ⟨j, hj, e⟩ := List.getElem_of_mem hx
    rcases h.each j x (by rw [← e]; exact List.getElem?_eq_getElem hj) with g | ⟨rfl, h4⟩
    · exact ⟨g.small, Nat.le_succ_of_le g.short, g.some⟩
    · exact ⟨rep8_letters h4, by rw [rep8_len]; decide, by rw [rep8_len]; decide⟩
  exact ⟨hl, h.nd, fun x hx => (key x hx).1, fun x hx => (key x hx).2.1, fun x hx => (key x hx).2.2⟩
theorem DrawnN.snoc {xs : List Str} {x : Str} (h : DrawnN xs) (hn : x ∉ xs) (hx : GoodX x ∨ (x = rep8 xs.length ∧ xs.length < 4)) : DrawnN (xs ++ [x]) := by
  refine ⟨?_, fun j y hy => ?_⟩
  · refine List.nodup_append.mpr ⟨h.nd, List.nodup_cons.mpr ⟨by simp, List.nodup_nil⟩, fun a ha b hb => ?_⟩
    rw [List.mem_singleton.mp hb]
    exact fun e => hn (e ▸ ha)
  · by_cases hj : j < xs.length
    · rw [List.getElem?_append_left hj] at hy
      exact h.each j y hy
    · have e : j = xs.length := by
        have := (List.getElem?_eq_some_iff.mp hy).1
        rw [List.length_append] at this
        have : j < xs.length + 1 := this
        omega
      subst e
      rw [List.getElem?_append_right (Nat.le_refl _), Nat.sub_self] at hy
      cases Option.some.inj hy
      exact hx
theorem DrawnN.other {xs : List Str} (h : DrawnN xs) (h4 : xs.length < 4) : rep8 xs.length ∉ xs := fun z => by
  obtain ⟨j, hj, e⟩ := List.getElem_of_mem z
  have hg : xs[j]? = some (rep8 xs.length) := by rw [List.getElem?_eq_getElem hj, e]
  rcases h.each j _ hg with g | ⟨e2, _⟩
  · have := g.short
    rw [rep8_len] at this
    omega
  · have e3 := congrArg TL.tl e2
    rw [tl_rep8, tl_rep8] at e3
    have := (List.cons.inj e3).1
    omega
/-- letters put together -/
theorem joinL_flat : ∀ ps : List (List Nat), TL.joinL [] ps = ps.flatten
  | [] => rfl
  | [p] => by show p = p ++ [] ; rw [List.append_nil]
  | p :: q :: r => by
    show p ++ ([] ++ TL.joinL [] (q :: r)) = p ++ (q :: r).flatten
    rw [List.nil_append, joinL_flat (q :: r)]
def Letter (y : Str) : Prop := ∃ c, TL.tl y = [c] ∧ 97 ≤ c ∧ c ≤ 122
theorem flat_letters : ∀ ys : List Str, (∀ y ∈ ys, Letter y) → (ys.map TL.tl).flatten.length = ys.length ∧ ∀ c ∈ (ys.map TL.tl).flatten, 97 ≤ c ∧ c ≤ 122
  | [], _ => ⟨rfl, fun c hc => nomatch hc⟩
  | y :: r, h => by
    obtain ⟨h1, h2⟩ := flat_letters r fun z hz => h z (List.mem_cons_of_mem _ hz)
    obtain ⟨c0, e, hc⟩ := h y List.mem_cons_self
    rw [List.map_cons, List.flatten_cons, e]
    refine ⟨by rw [List.length_append, h1]; show 1 + r.length = r.length + 1; omega, fun c hc' => ?_⟩
    rcases List.mem_append.mp hc' with z | z
    · rw [List.mem_singleton.mp z]
      exact hc
    · exact h2 c z
theorem join_letters {ys : List Str} (h : ∀ y ∈ ys, Letter y) (h1 : 1 ≤ ys.length) (h7 : ys.length ≤ 7) : GoodX (Txt.join ("" : Str) ys) := by
  obtain ⟨e1, e2⟩ := flat_letters ys h
  have et : TL.tl (Txt.join ("" : Str) ys) = (ys.map TL.tl).flatten := by
    rw [TL.join_eq, TL.tl_join, show TL.tl ("" : Str) = [] by decide +kernel, joinL_flat]
  have el : (Txt.join ("" : Str) ys).length = ys.length := by rw [TL.len_tl, et, e1]
  exact ⟨fun c hc => e2 c (by rw [← et]; exact hc), by omega, by omega⟩
theorem letters_sum : ∀ ys : List Str, (∀ y ∈ ys, Letter y) → (ys.map (·.length)).sum = ys.length
  | [], _ => rfl
  | y :: r, h => by
    have ih := letters_sum r fun z hz => h z (List.mem_cons_of_mem _ hz)
    obtain ⟨c0, e, hc⟩ := h y List.mem_cons_self
    have : y.length = 1 := by rw [TL.len_tl, e]; rfl
    rw [List.map_cons, List.sum_cons, ih, this, List.length_cons]
    omega
theorem at_num {α : Type} {l : List α} {i : Int} {j : Nat} {v : α} (e : i = (j : Int)) (h : l[j]? = some v) : atI l i = some v := by
  subst e
  exact atI_nat h
theorem abc_at {j : Nat} (h : j < 26) : ("abcdefghijklmnopqrstuvwxyz" : Str).cps.toList[j]? = some (97 + j) := by
  have : ∀ j, j < 26 → ("abcdefghijklmnopqrstuvwxyz" : Str).cps.toList[j]? = some (97 + j) := by decide +kernel
  exact this j h
theorem abcd_at {j : Nat} (h : j < 4) : ("abcd" : Str).cps.toList[j]? = some (97 + j) := by
  have : ∀ j, j < 4 → ("abcd" : Str).cps.toList[j]? = some (97 + j) := by decide +kernel
  exact this j h
theorem div_ok {j : Nat} (h : j < 7) : (0 : Int) < 100 * (1 + 2 * (0 + (j : Int)) * (0 + (j : Int))) ∧ 100 * (1 + 2 * (0 + (j : Int)) * (0 + (j : Int))) < 1073741824 :=
  match j, h with
  | 0, _ => by decide
  | 1, _ => by decide
  | 2, _ => by decide
  | 3, _ => by decide
  | 4, _ => by decide
  | 5, _ => by decide
  | 6, _ => by decide
def sp_law_names : Sp := fun vs H Q _ => ∃ (d : Addr) (ns : List Int) (m : Nat), vs = [.ref d, .int m] ∧ H d = some (LI ns) ∧ 1 ≤ m ∧ m ≤ 4 ∧
  ∀ H' p xs ns', SameBut d H H' → H p = none → p ≠ d → H' p = some (LS xs) → H' d = some (LI ns') → xs.length = m → GoodN xs → Q (.ref p) H'
section
variable {P : Program} {w : World} {K : PySem.W.Frag} {mg : Str → Option Value} {base : Heap} {T : List Addr}
theorem ok_law_names {f fp : Addr} {fd fdp : FuncData} {k : Nat} (M : Names mg) (D : Def K mg "_law_names" s_law_names ["_law_draws_here", "_law_many"] f fd) (D_law_pop : Def K mg "_law_pop" s_law_pop ["_law_draws_here"] fp fdp) : FnOk P w K mg base CX0 (k + 2) f fd ["_law_draws_here", "_law_many"] sp_law_names := by
  have G_law_pop : FnOk P w K mg base CX0 (k + 1) fp fdp ["_law_draws_here"] sp_pop := ok_pop D_law_pop
  refine D.F.ok sc_law_names (fun vs H Q E h => ?_) (fun cdv A outer s H vs Q E hr h => ?_)
  · obtain ⟨d, ns, m, rfl, _⟩ := h
    rfl
  · obtain ⟨d, ns, m, rfl, hd, hm1, hm4, q⟩ := h
    refine ⟨_, (pss_cons (ps_set (i := 2) sc_law_names.nd rfl (Or.inl rfl) (pe_lst (pa_cons pe_str (pa_cons pe_str (pa_cons pe_str (pa_cons pe_str (pa_cons pe_str (pa_cons pe_str (pa_cons pe_str (pa_cons pe_str pa_nil))))))))))
  (pss_cons (ps_set (i := 3) sc_law_names.nd rfl (Or.inl rfl) (pe_lst pa_nil))
  (pss_cons (ps_for PassesOwn.never rfl (pi_range1 (by rfl) M.range (pa_cons (pv 1) pa_nil)) (pg_name (i := 4) sc_law_names.nd rfl (Or.inl rfl))
   (pss_cons (ps_set (i := 5) sc_law_names.nd rfl (Or.inr rfl) (pe_call G_law_pop hr (by rfl) D_law_pop.g D_law_pop.F.kp D_law_pop.b .nil pass0 (pa_cons (pv 0) pa_nil)))
  (pss_cons (ps_set (i := 6) sc_law_names.nd rfl (Or.inr rfl) pe_str)
  (pss_cons (ps_set (i := 7) sc_law_names.nd rfl (Or.inl rfl) (pe_join pe_str (pe_lc (own := [("_law_j", 8)]) (by rfl) sc_law_names.nd (pi_range1 (by rfl) M.range (pa_cons (pe_op op_add pe_int (pe_op op_mod (pv 5) pe_int)) pa_nil)) (blkOk_by (own := [("_law_j", 8)]) (N := N_law_names) (sc := defScope s_law_names) (by decide +kernel)) (fun _ _ _ _ _ => (pg_name (i := 8) sc_law_names.nd rfl (Or.inl rfl))) (fun _ _ _ _ _ => pts_nil) (fun _ _ _ _ _ => (pe_ix ix_str (pv 6) (pe_op op_mod (pe_op op_fdiv (pv 5) (pe_op op_mul pe_int (pe_op op_add pe_int (pe_op op_mul (pe_op op_mul pe_int (pv 8)) (pv 8))))) pe_int) (fun _ _ => rfl))))))
  (pss_cutI (ps_if (pt_cmpR op_eq (pe_op op_mod (pe_op op_fdiv (pv 5) pe_int) pe_int) pe_int (nomark _))
   (pss_one (ps_set (i := 7) sc_law_names.nd rfl (Or.inl rfl) (pe_ix ix_list (pv 2) (pe_op op_mod (pe_op op_fdiv (pv 5) pe_int) pe_int) (fun _ _ => rfl))))
   pss_nil)
  (pss_cutI (ps_if (pt_cmpR op_in_seq (pv 7) (pv 3) (by rfl))
   (pss_one (ps_set (i := 7) sc_law_names.nd rfl (Or.inl rfl) (pe_op op_mulS (pe_ix ix_str pe_str (pv 4) (fun _ _ => rfl)) pe_int)))
   pss_nil)
  (pss_one (ps_expr (pe_bm PySem.F.plainAttrs_list PySem.F.slot_list_append PySem.F.type_list_append mt_append (pv 3) (pa_cons (pv 7) pa_nil))))))))))
  (pss_one (ps_ret (pv 3)))))), ?_⟩
    refine ⟨by show 8 ≤ sizeLine; decide, fun O nO => ⟨by decide, fun F nF => ?_⟩⟩
    have hO : upd (upd H O (.lst (oddW.map V.str))) F (.lst []) O = some (LS oddW) := (same_upd nF) _ _ upd_same
    have hF : upd (upd H O (.lst (oddW.map V.str))) F (.lst []) F = some (LS []) := upd_same
    have s0 := (same_upd (o := .lst (oddW.map V.str)) nO).trans (same_upd (o := .lst []) nF)
    have nF0 : H F = none := (same_upd nO).free nF
    have neFO : O ≠ F := ne_of_none upd_same nF
    have hd0 := s0 _ _ hd
    have neOd : O ≠ d := fun e => by rw [e, hd] at nO; cases nO
    have neFd : F ≠ d := fun e => by rw [e, hd] at nF0; cases nF0
    have hO' : (upd (upd H O (.lst [.str "for", .str "many", .str "with", .str "nothing", .str "x", .str "things", .str "none", .str "i"])) F (.lst [])) = upd (upd H O (.lst (oddW.map V.str))) F (.lst []) := rfl
    generalize hgen : upd (upd H O (.lst (oddW.map V.str))) F (.lst []) = H0 at hO hF s0 hd0 hO'
    refine ⟨_, rfl, _, rfl, by omega, by omega, for_range (n := ((m : Nat) : Int).toNat) (fun i σ H' => ∃ y4 y5 y6 y7, σ = [some (.ref d), some (.int m), some (.ref O), some (.ref F), y4, y5, y6, y7, none] ∧ SameBut d H H' ∧ H' O = some (LS oddW) ∧ (∃ ns', H' d = some (LI ns')) ∧ ∃ xs, H' F = some (LS xs) ∧ xs.length = i ∧ DrawnN xs) ?_ (fun i σ H1 hi hp => ?_) (fun σ H1 hp => ?_)⟩
    · exact ⟨none, none, none, none, rfl, hO' ▸ .of s0, hO' ▸ hO, ⟨_, hO' ▸ hd0⟩, [], hO' ▸ hF, rfl, ⟨List.nodup_nil, fun j x h => by simp at h⟩⟩
    · obtain ⟨y4, y5, y6, y7, rfl, s1, hO1, ⟨ns1, hd1⟩, xs, hF1, hl1, dr⟩ := hp
      rw [Int.toNat_natCast] at hi
      refine ⟨_, rfl, d, ns1, rfl, hd1, fun H2 s2 hd2 => ?_⟩
      generalize ns1.headD 0 = n0
      generalize ns1.tail = ns2 at hd2
      have hO2 := s2 _ _ neOd hO1
      have hF2 := s2 _ _ neFd hF1
      obtain ⟨cn, hc7, ec⟩ := mod_at (i := n0) (n := 7) (by decide)
      refine ⟨⟨_, rfl⟩, _, rfl, _, _, rfl, rfl, (by show (0 : Int) < _; decide), _, _, rfl, rfl, _, rfl, by show -(2 ^ 62) ≤ 1 + n0 % 7; omega, by show 1 + n0 % 7 < 2 ^ 62; omega, fun B nB => lc_range (lo := 0) (n := (1 + n0 % 7).toNat) (fun j H' => Same H2 H' ∧ ∃ ys, H' B = some (LS ys) ∧ ys.length = j ∧ ∀ y ∈ ys, Letter y) ⟨same_upd nB, [], upd_same, rfl, fun y hy => nomatch hy⟩ (fun j H3 hj hp => ?_) (fun H3 hp => ?_)⟩
      · obtain ⟨s3, ys, hB, hly, hle⟩ := hp
        have hj7 : j < 7 := by omega
        obtain ⟨jj, hjj, ej⟩ := mod_at (i := n0 / (100 * (1 + 2 * (0 + (j : Int)) * (0 + (j : Int))))) (n := 26) (by decide)
        refine ⟨rfl, _, rfl, _, rfl, _, rfl, _, _, rfl, rfl, .inl ⟨by decide, by decide⟩, _, rfl, _, _, rfl, rfl, .inr ⟨by omega, by omega⟩, _, _, rfl, rfl, _, _, rfl, rfl, .inl ⟨by decide, by decide⟩, _, _, rfl, rfl, div_ok hj7, _, _, rfl, rfl, (by show (0 : Int) < _; decide), _, _, 97 + jj, rfl, rfl, by decide +kernel, at_num ej (abc_at hjj), ?_⟩
        refine ⟨_, hB, szL' (by rw [List.length_map]; omega), sm_new s3 nB, ys ++ [_], by rw [upd_same, ls_app], by rw [List.length_append, hly]; rfl, fun y hy => ?_⟩
        rcases List.mem_append.mp hy with z | z
        · exact hle y z
        · rw [List.mem_singleton.mp z]
          exact ⟨97 + jj, rfl, by omega, by omega⟩
      · obtain ⟨s3, ys, hB, hly, hle⟩ := hp
        have s13 : SameBut d H H3 := (s1.trans s2).trans (.of s3)
        have hO3 := s3 _ _ hO2
        have hF3 := s3 _ _ hF2
        have hd3 := s3 _ _ hd2
        have gx := join_letters hle (by omega) (by omega)
        have sm := letters_sum ys hle
        refine ⟨_, B, ys, rfl, rfl, .inl (SqL.of hB), by rw [sm, show ("" : Str).length = 0 by decide +kernel]; omega, ?_⟩
        generalize Txt.join ("" : Str) ys = x0 at gx
        -- an odd word
        refine ⟨fun σ H' => ∃ x, σ = [some (.ref d), some (.int m), some (.ref O), some (.ref F), some (.int (0 + (i : Nat))), some (.int n0), some (.str "abcdefghijklmnopqrstuvwxyz"), some (.str x), none] ∧ H' = H3 ∧ GoodX x, ⟨_, rfl, _, _, rfl, rfl, ⟨by decide, by decide⟩, _, _, rfl, rfl, (by show (0 : Int) < _; decide), rfl, _, rfl, ite2 (fun _ => ?_) (fun _ => ?_)⟩, fun σ' H' hI => ?_⟩
        · obtain ⟨j8, h8, e8⟩ := mod_at (i := n0 / 21) (n := 8) (by decide)
          obtain ⟨x, hx, gx2⟩ := odd_good j8 h8
          exact ⟨_, rfl, _, rfl, _, _, rfl, rfl, ⟨by decide, by decide⟩, _, _, rfl, rfl, (by show (0 : Int) < _; decide), O, _, _, _, rfl, rfl, SqL.of hO3, at_of e8 hx, x, rfl, rfl, gx2⟩
        · exact ⟨x0, rfl, rfl, gx⟩
        · obtain ⟨x, rfl, rfl, gx⟩ := hI
          refine ⟨fun σ H4 => ∃ x, σ = [some (.ref d), some (.int m), some (.ref O), some (.ref F), some (.int (0 + (i : Nat))), some (.int n0), some (.str "abcdefghijklmnopqrstuvwxyz"), some (.str x), none] ∧ H4 = H' ∧ x ∉ xs ∧ (GoodX x ∨ (x = rep8 xs.length ∧ xs.length < 4)), ⟨_, rfl, _, rfl, F, _, rfl, .inl (SqL.of hF3), rfl, flat_strs xs, _, rfl, ite2 (fun c => ?_) (fun c => ?_)⟩, fun σ' H4 hI => ?_⟩
          · have h4 : xs.length < 4 := by omega
            refine ⟨_, rfl, _, _, 97 + i, rfl, rfl, by decide +kernel, at_num (Int.zero_add _) (abcd_at (by omega)), 97 + i, 8, rfl, rfl, by decide, by decide, rep8 xs.length, ?_, rfl, dr.other h4, .inr ⟨rfl, h4⟩⟩
            rw [hl1]
            rfl
          · refine ⟨x, rfl, rfl, fun z => ?_, .inl gx⟩
            refine c ?_
            show inV (.str x) (xs.map V.str) = true
            rw [inV_strs, decide_eq_true z]
          · obtain ⟨x, rfl, rfl, nx, gx⟩ := hI
            refine ⟨_, rfl, .inl ⟨rfl, _, SqL.of hF3⟩, _, rfl, F, _, _, rfl, rfl, hF3, szL' (by rw [List.length_map]; omega), ?_⟩
            refine ⟨_, _, _, _, rfl, s13.new nF0, ?_, ⟨ns2, ?_⟩, xs ++ [x], by rw [upd_same, ls_app], by rw [List.length_append, hl1]; rfl, dr.snoc nx gx⟩
            · rw [upd_ne neFO]
              exact hO3
            · rw [upd_ne (fun e => neFd e.symm)]
              exact hd3
    · obtain ⟨y4, y5, y6, y7, rfl, s1, hO1, ⟨ns1, hd1⟩, xs, hF1, hl1, dr⟩ := hp
      rw [Int.toNat_natCast] at hl1
      exact ⟨_, rfl, q H1 F xs ns1 s1 nF0 neFd hF1 hd1 hl1 (dr.good (by omega))⟩
end
/-! ### the law -/
abbrev s_law : Stmt := topS 22
abbrev N_law : List Str := ["_law_script", "_law_draws_here", "_law_many", "_law_names_here", "_law_turn", "_law_content", "_law_handed", "_law_text", "_law_found", "_law_again", "_law_told"]
theorem sc_law : FnScope N_law ["_law_script"] (defScope s_law) := ⟨rfl, rfl, rfl, by decide +kernel, rfl, by decide +kernel, by decide +kernel⟩

theorem shaped_pair {xs : List Str} {cs : List Int} (h : ∀ x ∈ xs, Signs x) : SeqAt.shaped (.list [.list (xs.map PyData.str), .list (cs.map PyData.int)]) = true := by
  unfold SeqAt.shaped
  have a := lay_strs xs h
  have b := lay_ints cs
  have c := depth_strs xs
  have d := depth_ints cs
  have h1 : PyData.canLay0 (.list [.list (xs.map PyData.str), .list (cs.map PyData.int)]) = true := by
    simp [PyData.canLay0, PyData.canLayAll0, a, b]
  have h2 : PyData.depth (.list [.list (xs.map PyData.str), .list (cs.map PyData.int)]) ≤ 64 := by
    simp only [PyData.depth, PyData.depthAll, c, d]
    decide
  rw [h1, decide_eq_true h2]
  rfl
def sp_law (K : PySem.W.Frag) (T : Addr) : Sp := fun vs H Q _ => ∃ (a : Addr) (ns : List Int), vs = [.ref a] ∧ SqL K H a (ns.map V.int) ∧ ns.length ≤ 63 ∧ GxR.TabG H T ∧ ∀ H', Q (.bl true) H'
section
variable {P : Program} {w : World} {K : PySem.W.Frag} {mg : Str → Option Value} {base : Heap}
theorem ok_law {f f_show_content f_made_of f_read_number f_within_bounds f_read_thing f_read_content f_law_draws f_law_pop f_law_whole f_law_numbers f_law_want f_law_cases f_law_names f_law_content_text c t : Addr} {fd fd_show_content fd_made_of fd_read_number fd_within_bounds fd_read_thing fd_read_content fd_law_draws fd_law_pop fd_law_whole fd_law_numbers fd_law_want fd_law_cases fd_law_names fd_law_content_text : FuncData} (M : Names mg) (D : Def K mg "law" s_law ["_law_script"] f fd)
    (D_show_content : Def K mg "show_content" s_show_content ["names", "content"] f_show_content fd_show_content)
    (D_made_of : Def K mg "made_of" s_made_of ["signs", "text", "most"] f_made_of fd_made_of)
    (D_read_number : Def K mg "read_number" s_read_number ["text", "figures"] f_read_number fd_read_number)
    (D_within_bounds : Def K mg "within_bounds" s_within_bounds ["content"] f_within_bounds fd_within_bounds)
    (D_read_thing : Def K mg "read_thing" s_read_thing ["names", "text"] f_read_thing fd_read_thing)
    (D_read_content : Def K mg "read_content" s_read_content ["names", "text"] f_read_content fd_read_content)
    (D_law_draws : Def K mg "_law_draws" s_law_draws ["_law_script", "_law_turn", "_law_many"] f_law_draws fd_law_draws)
    (D_law_pop : Def K mg "_law_pop" s_law_pop ["_law_draws_here"] f_law_pop fd_law_pop)
    (D_law_whole : Def K mg "_law_whole" s_law_whole ["_law_found"] f_law_whole fd_law_whole)
    (D_law_numbers : Def K mg "_law_numbers" s_law_numbers ["_law_found", "_law_due"] f_law_numbers fd_law_numbers)
    (D_law_want : Def K mg "_law_want" s_law_want ["_law_draws_here", "_law_many"] f_law_want fd_law_want)
    (D_law_cases : Def K mg "_law_cases" s_law_cases ["_law_want_here"] f_law_cases fd_law_cases)
    (D_law_names : Def K mg "_law_names" s_law_names ["_law_draws_here", "_law_many"] f_law_names fd_law_names)
    (D_law_content_text : Def K mg "_law_content_text" s_law_content_text ["_law_names_here", "_law_content"] f_law_content_text fd_law_content_text)
    (hc : fd_made_of.code = .ref c) (TB : GxR.TabB base mg c t) :
    FnOk P w K mg base CX0 5 f fd ["_law_script"] (sp_law K t) := by
  have ht : t ∈ [t] := List.mem_cons_self
  have G_read_content : FnOk P w K mg base CX0 4 f_read_content fd_read_content ["names", "text"] (sp_read_content [t]) := ok_read_content M D_read_content D_read_thing D_show_content D_within_bounds D_read_number D_made_of hc TB ht
  have G_show_content : FnOk P w K mg base CX0 4 f_show_content fd_show_content ["names", "content"] (sp_show_content K) := ok_show_content M D_show_content
  have G_law_draws : FnOk P w K mg base CX0 4 f_law_draws fd_law_draws ["_law_script", "_law_turn", "_law_many"] (sp_draws K) := ok_draws M D_law_draws
  have G_law_pop : FnOk P w K mg base CX0 4 f_law_pop fd_law_pop ["_law_draws_here"] sp_pop := ok_pop D_law_pop
  have G_law_numbers : FnOk P w K mg base CX0 4 f_law_numbers fd_law_numbers ["_law_found", "_law_due"] (sp_numbers K) := ok_numbers M D_law_numbers D_law_whole
  have G_law_want : FnOk P w K mg base CX0 4 f_law_want fd_law_want ["_law_draws_here", "_law_many"] sp_want := ok_want M D_law_want D_law_pop D_law_cases
  have G_law_names : FnOk P w K mg base CX0 4 f_law_names fd_law_names ["_law_draws_here", "_law_many"] sp_law_names := ok_law_names M D_law_names D_law_pop
  have G_law_content_text : FnOk P w K mg base CX0 4 f_law_content_text fd_law_content_text ["_law_names_here", "_law_content"] sp_law_text := ok_law_text M D_law_content_text
  refine D.F.ok sc_law (fun vs H Q E h => ?_) (fun cdv A outer s H vs Q E hr h => ?_)
  · obtain ⟨a, ns, rfl, _⟩ := h
    rfl
  · obtain ⟨a, ns, rfl, hS, hlen, hT, q⟩ := h
    refine ⟨_, (pss_cons (ps_set (i := 1) sc_law.nd rfl (Or.inl rfl) (pe_call G_law_draws hr (by rfl) D_law_draws.g D_law_draws.F.kp D_law_draws.b .nil pass0 (pa_cons (pv 0) (pa_cons pe_int (pa_cons pe_int pa_nil)))))
  (pss_cons (ps_set (i := 2) sc_law.nd rfl (Or.inl rfl) (pe_op op_add pe_int (pe_op op_mod (pe_call G_law_pop hr (by rfl) D_law_pop.g D_law_pop.F.kp D_law_pop.b .nil pass0 (pa_cons (pv 1) pa_nil)) pe_int)))
  (pss_cons (ps_set (i := 3) sc_law.nd rfl (Or.inl rfl) (pe_call G_law_names hr (by rfl) D_law_names.g D_law_names.F.kp D_law_names.b .nil pass0 (pa_cons (pv 1) (pa_cons (pv 2) pa_nil))))
  (pss_cons (ps_for PassesOwn.never rfl (pi_range1 (by rfl) M.range (pa_cons pe_int pa_nil)) (pg_name (i := 4) sc_law.nd rfl (Or.inl rfl))
   (pss_cutI (ps_set (i := 5) sc_law.nd rfl (Or.inl rfl) (pe_ix ix_list (pe_lst (pa_cons (pe_call G_law_want hr (by rfl) D_law_want.g D_law_want.F.kp D_law_want.b .nil pass0 (pa_cons (pv 1) (pa_cons (pv 2) pa_nil))) (pa_cons (pe_op op_rep (pe_lst (pa_cons pe_int pa_nil)) (pv 2)) pa_nil))) (pe_callTy call_int1 (by rfl) M.int (by decide +kernel) (pa_cons (pe_cmpR op_eq (pv 4) pe_int (nomark _)) pa_nil)) (fun _ _ => rfl)))
  (pss_cons (ps_set (i := 6) sc_law.nd rfl (Or.inl rfl) (pe_lst (pa_cons (pe_callTy call_list_of (by rfl) M.list (by decide +kernel) (pa_cons (pv 3) pa_nil)) (pa_cons (pe_callTy call_list_of (by rfl) M.list (by decide +kernel) (pa_cons (pv 5) pa_nil)) pa_nil))))
  (pss_cons (ps_set (i := 7) sc_law.nd rfl (Or.inl rfl) (pe_call G_law_content_text hr (by rfl) D_law_content_text.g D_law_content_text.F.kp D_law_content_text.b .nil pass0 (pa_cons (pv 3) (pa_cons (pv 5) pa_nil))))
  (pss_cons (ps_set (i := 8) sc_law.nd rfl (Or.inl rfl) (pe_call G_show_content hr (by rfl) D_show_content.g D_show_content.F.kp D_show_content.b .nil pass0 (pa_cons (pe_ix ix_list (pv 6) pe_int (fun _ _ => rfl)) (pa_cons (pe_ix ix_list (pv 6) pe_int (fun _ _ => rfl)) pa_nil))))
  (pss_cons (ps_if (PW.pt (pw_or (pt_not (pt_val (pe_callB call_isi (by rfl) M.isinstance (by decide +kernel) (pa_cons (pv 8) (pa_cons (pe_bltn (v := .ty "str") (by rfl) M.str (by decide +kernel) rfl) pa_nil))))) (pw_or (pt_cmpR op_ne (pv 8) (pv 7) (nomark _)) (pw_or1 (pt_cmpR (op_neD hr.units) (pv 6) (pe_lst (pa_cons (pv 3) (pa_cons (pv 5) pa_nil))) (nomark _))))))
   (pss_one (ps_ret pe_bl))
   pss_nil)
  (pss_one (ps_for PassesOwn.never rfl (pi_range1 (by rfl) M.range (pa_cons pe_int pa_nil)) (pg_name (i := 9) sc_law.nd rfl (Or.inl rfl))
   (pss_cons (ps_set (i := 10) sc_law.nd rfl (Or.inl rfl) (pe_call G_read_content hr (by rfl) D_read_content.g D_read_content.F.kp D_read_content.b .nil pass0 (pa_cons (pe_ix ix_list (pv 6) pe_int (fun _ _ => rfl)) (pa_cons (pv 7) pa_nil))))
  (pss_cons (ps_if (PW.pt (pw_or (pt_not (pt_val (pe_call G_law_numbers hr (by rfl) D_law_numbers.g D_law_numbers.F.kp D_law_numbers.b .nil pass0 (pa_cons (pv 10) (pa_cons (pv 5) pa_nil))))) (pw_or1 (pt_cmpR (op_neD hr.units) (pe_ix ix_list (pv 6) pe_int (fun _ _ => rfl)) (pv 3) (nomark _)))))
   (pss_one (ps_ret pe_bl))
   pss_nil)
  (pss_one (ps_expr (pe_bm PySem.F.plainAttrs_list PySem.F.slot_list_append PySem.F.type_list_append mt_append (pv 10) (pa_cons pe_int pa_nil))))))))))))))
  (pss_one (ps_ret pe_bl)))))), ?_⟩
    refine ⟨_, rfl, a, ns, 2, 60, rfl, hS, by omega, by omega, by omega, fun H1 d ds s1 nd hd => ?_⟩
    have hT1 := tabG_same s1 hT
    -- many
    refine ⟨_, rfl, d, ds, rfl, hd, fun H2 s2 hd2 => ?_⟩
    have hT2 := tabG_but s2 hd hT1
    generalize ds.headD 0 = x0
    generalize ds.tail = ds2 at hd2
    obtain ⟨m, hm1, hm4, em⟩ := draw4 x0
    refine ⟨_, _, rfl, rfl, (by show (0 : Int) < _; decide), _, _, rfl, rfl, ?_⟩
    -- names
    refine ⟨_, rfl, _, rfl, d, _, m, by show [V.ref d, V.int (1 + x0 % 4)] = _; rw [em], hd2, hm1, hm4, fun H3 p xs ds3 s3 np npd hp hd3 hlx gN => ?_⟩
    have hT3 := tabG_but s3 hd2 hT2
    refine ⟨_, rfl, by decide, by decide, for_range (n := 6) (fun i σ H' => ∃ y4 y5 y6 y7 y8 y9 y10, σ = [some (.ref a), some (.ref d), some (.int (1 + x0 % 4)), some (.ref p), y4, y5, y6, y7, y8, y9, y10] ∧ (∃ ds, H' d = some (LI ds)) ∧ H' p = some (LS xs) ∧ GxR.TabG H' t) ⟨none, none, none, none, none, none, none, rfl, ⟨ds3, hd3⟩, hp, hT3⟩ (fun i σ H4 hi hp => ?_) (fun σ H4 _ => q H4)⟩
    obtain ⟨y4, y5, y6, y7, y8, y9, y10, rfl, ⟨ds4, hd4⟩, hp4, hT4⟩ := hp
    -- content
    refine ⟨fun σ H' => ∃ ca cs, σ = [some (.ref a), some (.ref d), some (.int (1 + x0 % 4)), some (.ref p), some (.int (0 + (i : Nat))), some (.ref ca), y6, y7, y8, y9, y10] ∧ (∃ ds, H' d = some (LI ds)) ∧ H' p = some (LS xs) ∧ GxR.TabG H' t ∧ H' ca = some (LI cs) ∧ FitC xs cs ∧ boundM cs ≤ 400, ?_, fun σ' H' hI => ?_⟩
    · refine ⟨_, rfl, _, rfl, d, ds4, m, by show [V.ref d, V.int (1 + x0 % 4)] = _; rw [em], hd4, hm1, hm4, fun H5 wa ws ds5 s5 nw nwd hw hd5 hlw smw cw => ?_⟩
      have hT5 := tabG_but s5 hd4 hT4
      have hp5 := s5 _ _ npd hp4
      refine ⟨by show 1 ≤ sizeLine; decide, fun l nl => ⟨_, rfl, l, _, _, rfl, rfl, upd_same, by omega, by omega, szL (by show 1 * (1 + x0 % 4).toNat ≤ _; omega), fun z nz => ⟨by show 2 ≤ sizeLine; decide, fun u nu => ?_⟩⟩⟩
      have s6 := ((same_upd (o := .lst [V.int 0]) nl).trans (same_upd (o := .lst (List.replicate (1 + x0 % 4).toNat [V.int 0]).flatten) nz)).trans (same_upd (o := .lst [.ref wa, .ref z]) nu)
      have hu : upd (upd (upd H5 l (.lst [V.int 0])) z (.lst (List.replicate (1 + x0 % 4).toNat [V.int 0]).flatten)) u (.lst [.ref wa, .ref z]) u = some (.lst [.ref wa, .ref z]) := upd_same
      have hz : upd (upd (upd H5 l (.lst [V.int 0])) z (.lst (List.replicate (1 + x0 % 4).toNat [V.int 0]).flatten)) u (.lst [.ref wa, .ref z]) z = some (LI (List.replicate xs.length 0)) := by
        refine (same_upd nu) _ _ ?_
        rw [upd_same, zeros_map, show (1 + x0 % 4).toNat = xs.length by omega]
      generalize upd (upd (upd H5 l (.lst [V.int 0])) z (.lst (List.replicate (1 + x0 % 4).toNat [V.int 0]).flatten)) u (.lst [.ref wa, .ref z]) = H6 at s6 hu hz ⊢
      refine ⟨_, rfl, rfl, .inr ⟨_, rfl, ?_⟩⟩
      by_cases c5 : (0 + (i : Int)) = 5
      · refine ⟨u, _, _, _, rfl, rfl, SqL.of hu, at_of (j := 1) ?_ rfl, z, _, rfl, ⟨_, s6 _ _ hd5⟩, s6 _ _ hp5, tabG_same s6 hT5, hz, ⟨by rw [List.length_replicate], fun c hc => ?_⟩, ?_⟩
        · rw [decide_eq_true (by rw [c5])]
          rfl
        · rw [(List.mem_replicate.mp hc).2]
          decide
        · unfold boundM
          rw [casesM_zero _ _ fun w hw => (List.mem_replicate.mp hw).2]
          decide
      · refine ⟨u, _, _, _, rfl, rfl, SqL.of hu, at_of (j := 0) ?_ rfl, wa, ws, rfl, ⟨_, s6 _ _ hd5⟩, s6 _ _ hp5, tabG_same s6 hT5, s6 _ _ hw, ⟨by omega, smw⟩, cw⟩
        rw [decide_eq_false (fun z => c5 (V.int.inj z))]
        rfl
    · obtain ⟨ca, cs, rfl, ⟨ds7, hd7⟩, hp7, hT7, hca, fc, hb⟩ := hI
      -- handed
      refine ⟨_, rfl, p, _, rfl, .inl (SqL.of hp7), fun h1 nh1 => ⟨_, rfl, ca, _, rfl, .inl (SqL.of ((same_upd nh1) _ _ hca)), fun h2 nh2 => ⟨by show 2 ≤ sizeLine; decide, fun hh nhh => ?_⟩⟩⟩
      have s8 := ((same_upd (o := .lst (xs.map V.str)) nh1).trans (same_upd (o := .lst (cs.map V.int)) nh2)).trans (same_upd (o := .lst [.ref h1, .ref h2]) nhh)
      have e1 : upd (upd (upd H' h1 (.lst (xs.map V.str))) h2 (.lst (cs.map V.int))) hh (.lst [.ref h1, .ref h2]) h1 = some (LS xs) := (same_upd nhh) _ _ ((same_upd nh2) _ _ upd_same)
      have e2 : upd (upd (upd H' h1 (.lst (xs.map V.str))) h2 (.lst (cs.map V.int))) hh (.lst [.ref h1, .ref h2]) h2 = some (LI cs) := (same_upd nhh) _ _ upd_same
      have e3 : upd (upd (upd H' h1 (.lst (xs.map V.str))) h2 (.lst (cs.map V.int))) hh (.lst [.ref h1, .ref h2]) hh = some (.lst [.ref h1, .ref h2]) := upd_same
      generalize upd (upd (upd H' h1 (.lst (xs.map V.str))) h2 (.lst (cs.map V.int))) hh (.lst [.ref h1, .ref h2]) = H8 at s8 e1 e2 e3 ⊢
      have hd8 := s8 _ _ hd7
      have hp8 := s8 _ _ hp7
      have hc8 := s8 _ _ hca
      have hT8 := tabG_same s8 hT7
      -- text
      refine ⟨_, rfl, _, rfl, p, ca, xs, cs, rfl, hp8, hc8, gN, fc, fun H9 s9 => ?_⟩
      -- found
      refine ⟨_, rfl, hh, _, _, _, rfl, rfl, SqL.of (s9 _ _ e3), atI_nat (j := 0) rfl, _, rfl, hh, _, _, _, rfl, rfl, SqL.of (s9 _ _ e3), atI_nat (j := 1) rfl, h1, h2, xs, cs, rfl, s9 _ _ e1, s9 _ _ e2, gN, fc, fun H10 s10 => ?_⟩
      have k10 : ∀ {b : Addr} {o : HO}, H8 b = some o → H10 b = some o := fun h => s10 _ _ (s9 _ _ h)
      refine ⟨_, rfl, _, _, _, _, true, rfl, .ty "str", .base (.str _), kit_ty (by decide +kernel), true, rfl, ?_⟩
      refine ⟨_, rfl, _, rfl, rfl, false, by simp, ?_⟩
      refine ⟨_, rfl, _, rfl, _, rfl, by show 2 ≤ sizeLine; decide, fun e ne => ?_⟩
      have k11 : ∀ {b : Addr} {o : HO}, H8 b = some o → upd H10 e (.lst [.ref p, .ref ca]) b = some o := fun h => (same_upd ne) _ _ (k10 h)
      refine ⟨_, _, .lst (SqL.of (k11 e3)) (.cons (dp_strs (SqL.of (k11 e1))) (.cons (dp_ints (SqL.of (k11 e2))) .nil)), .lst (SqL.of upd_same) (.cons (dp_strs (SqL.of (k11 hp8))) (.cons (dp_ints (SqL.of (k11 hc8))) .nil)), shaped_pair gN.signs, shaped_pair gN.signs, _, rfl, ?_⟩
      rw [eqv_self (shaped_pair gN.signs)]
      have hT11 : GxR.TabG (upd H10 e (.lst [.ref p, .ref ca])) t := tabG_same (same_upd ne) (tabG_same s10 (tabG_same s9 hT8))
      generalize upd H10 e (.lst [.ref p, .ref ca]) = H11 at k11 hT11 ⊢
      -- read again and again
      refine ⟨_, rfl, by decide, by decide, for_range (n := 2) (fun _ σ H' => ∃ y9 y10, σ = [some (.ref a), some (.ref d), some (.int (1 + x0 % 4)), some (.ref p), some (.int (0 + (i : Nat))), some (.ref ca), some (.ref hh), some (.str (showM xs cs)), some (.str (showM xs cs)), y9, y10] ∧ Ext [t] H11 H') ⟨_, _, rfl, .refl fun u hu => by rw [List.mem_singleton.mp hu]; exact hT11⟩ (fun i2 σ H12 _ hp => ?_) (fun σ H12 hp => ?_)⟩
      · obtain ⟨y9, y10, rfl, E12⟩ := hp
        have k12 : ∀ {b : Addr} {xs : List V}, H8 b = some (.lst xs) → H12 b = some (.lst xs) := fun h => E12.lst (k11 h)
        refine ⟨_, rfl, hh, _, _, _, rfl, rfl, SqL.of (k12 e3), atI_nat (j := 0) rfl, _, rfl, h1, xs, cs, rfl, k12 e1, gN, fc, hb, E12.t1, fun H13 tl E13 ntl htl => ?_⟩
        refine ⟨_, rfl, _, rfl, tl, ca, cs, rfl, htl, SqL.of (E13.lst (k12 hc8)), fun H14 s14 => ⟨true, rfl, ?_⟩⟩
        have k14 : ∀ {b : Addr} {xs : List V}, H8 b = some (.lst xs) → H14 b = some (.lst xs) := fun h => s14 _ _ (E13.lst (k12 h))
        refine ⟨_, rfl, hh, _, _, _, rfl, rfl, SqL.of (k14 e3), atI_nat (j := 0) rfl, _, rfl, _, _, dp_strs (SqL.of (k14 e1)), dp_strs (SqL.of (k14 hp8)), shaped_strs gN.signs, shaped_strs gN.signs, _, rfl, ?_⟩
        rw [eqv_self (shaped_strs gN.signs)]
        have htl14 := s14 _ _ htl
        refine ⟨_, rfl, .inl ⟨rfl, _, SqL.of htl14⟩, tl, _, _, rfl, rfl, htl14, szL' (by rw [List.length_map, fc.len]; have := gN.few; omega), _, _, rfl, ?_⟩
        exact ((E12.trans E13).trans (.same s14 E13.t1)).new (E12.free _ ntl)
      · obtain ⟨y9, y10, rfl, E12⟩ := hp
        exact ⟨_, _, _, _, _, _, _, rfl, ⟨_, E12.lst (k11 hd8)⟩, E12.lst (k11 hp8), E12.t1 t List.mem_cons_self⟩
end
/-! ### the end, with tables of code objects -/
theorem tabIn_of {K : PySem.W.Frag} {x : Str} {f c P : Addr} {oc e : Value} {od dd : Option Addr} {fd : FuncData} {sl sl' : Array (Option Value)} {vs : Array Value} (a : PySem.W.nsIn K mainGlobals x = some (some (.ref f))) (l : K.lookup f = some ⟨oc, od, .func fd, sl⟩) (hc : fd.code = .ref c)
    (lc : K.lookup c = some ⟨e, dd, .fields vs, sl'⟩) (hv : vs[11]? = some (.ref P)) : PySem.W.tabIn K x = some (c, P) := by
  unfold PySem.W.tabIn
  rw [a]
  simp only [l, hc, lc, hv]
theorem walk_ofG {l : PySem.W.OpenLaw} {n k : Nat} {q : Program} {loose : List Str} {XP : (Str → Option Value) → Heap → Prop} {YP : World → Heap → Prop} {d : DefRec} {K : Params → PySem.W.Frag} {CX : World → CXT} {x : Str}
    (hn : l.most = some n) (hn2 : n ≤ sizeLine) (hdf : d.params.defaults = []) (hr : Room k callerA) (hY : ∀ (w : World) (h : Heap), YP w h → (K w.params).In h)
    (F : ∀ (w : World) (mg : Str → Option Value) (fa : Addr) (h : Heap), (K w.params).In h → h.Ns mainGlobals mg → mg d.name = some (.ref fa) →
      (∀ (y : Str) (c P : Addr), ((recsOf q).find? fun e => e.name == y).isSome = true → PySem.W.tabIn (K w.params) y = some (c, P) → PySem.W.CodeHd h c P ∧ h.get? P = some { cls := .none, data := .fields #[] }) → LamX.LawAtS l w (K w.params) (CX w) k n x mg fa h)
    (hCX : ∀ (w : World) (H : Hp) (s : Shared) (e : Value) (s' : Shared), CX w [] H s (fun _ _ _ => False) e s' → False) :
    PySem.W.WalkO q loose XP YP l.row.toRowW d [] (fun f vs => PySem.call f vs) := by
  refine Att.attach_callB hn hdf fun w s₀ s₁ mg mb fa o pm cd doc a vs ns G Y ho hd hcd hmg hobj hints hlen hbits hg => ?_
  have KX := hY w _ Y
  obtain ⟨fd, cs, sp, hT, nT, C, hb, hsp, hF⟩ := F w mg fa _ KX G.T.g hmg fun y c P hy ht => by
    obtain ⟨dd, hdd⟩ := Option.isSome_iff_exists.mp hy
    exact PySem.W.tab_of G.T KX hdd ht
  exact LamX.law_callTs KX G.T.g G.T.b G.T.builtins G.T.nolimit hg hT nT C G.T.bmain hobj hints (Nat.le_trans hlen hn2) hr hF hb (fun H hH hS => hsp H a ns hlen hbits hH hS) fun H e s' => hCX w H s₁ e s'
/-! ### what the top has written -/
theorem all_mk {l : PySem.W.OpenLaw} {w : World} {q : Program} {K : PySem.W.Frag} {h : Heap} {mg : Str → Option Value} {fa f1 f2 f3 f4 f5 f6 f7 f8 f9 f10 f11 f12 f13 f14 f15 : Addr} (X : K.In h) (G : h.Ns mainGlobals mg) (hfa : mg "law" = some (.ref fa))
    (tabs : ∀ (y : Str) (c P : Addr), ((recsOf q).find? fun e => e.name == y).isSome = true → PySem.W.tabIn K y = some (c, P) → PySem.W.CodeHd h c P ∧ h.get? P = some { cls := .none, data := .fields #[] })
    {od1 an1 od2 an2 od3 an3 od4 an4 od5 an5 od6 an6 od7 an7 od8 an8 od9 an9 od10 an10 od11 an11 od12 an12 od13 an13 od14 an14 od15 an15 : Option Addr} {sl1 sl2 sl3 sl4 sl5 sl6 sl7 sl8 sl9 sl10 sl11 sl12 sl13 sl14 sl15 : Array (Option Value)} {oc1 kV1 dc1 pm1 ct1 cd1 oc2 kV2 dc2 pm2 ct2 cd2 oc3 kV3 dc3 pm3 ct3 oc4 kV4 dc4 pm4 ct4 cd4 oc5 kV5 dc5 pm5 ct5 cd5 oc6 kV6 dc6 pm6 ct6 cd6 oc7 kV7 dc7 pm7 ct7 cd7 oc8 kV8 dc8 pm8 ct8 cd8 oc9 kV9 dc9 pm9 ct9 cd9 oc10 kV10 dc10 pm10 ct10 cd10 oc11 kV11 dc11 pm11 ct11 cd11 oc12 kV12 dc12 pm12 ct12 cd12 oc13 kV13 dc13 pm13 ct13 cd13 oc14 kV14 dc14 pm14 ct14 cd14 oc15 kV15 dc15 pm15 ct15 cd15 : Value}
    {cT3 PT3 : Addr} {eT3 : Value} {dT3 : Option Addr} {vT3 : Array Value} {sT3 : Array (Option Value)}
    (a1 : PySem.W.nsIn K mainGlobals "law" = some (some (.ref f1))) (l1 : K.lookup f1 = some ⟨oc1, od1, .func (PySem.W.fnOf "law" "law" (defArgs s_law) (defBody s_law) (defScope s_law) .none kV1 dc1 pm1 an1 cd1 ct1), sl1⟩) (c1 : PySem.W.codeIn K cd1 "law" = true) (k1 : PySem.W.keepIn K (.ref f1) = true)
    (a2 : PySem.W.nsIn K mainGlobals "show_content" = some (some (.ref f2))) (l2 : K.lookup f2 = some ⟨oc2, od2, .func (PySem.W.fnOf "show_content" "show_content" (defArgs s_show_content) (defBody s_show_content) (defScope s_show_content) .none kV2 dc2 pm2 an2 cd2 ct2), sl2⟩) (c2 : PySem.W.codeIn K cd2 "show_content" = true) (k2 : PySem.W.keepIn K (.ref f2) = true)
    (a3 : PySem.W.nsIn K mainGlobals "made_of" = some (some (.ref f3))) (l3 : K.lookup f3 = some ⟨oc3, od3, .func (PySem.W.fnOf "made_of" "made_of" (defArgs s_made_of) (defBody s_made_of) (defScope s_made_of) .none kV3 dc3 pm3 an3 (.ref cT3) ct3), sl3⟩) (c3 : PySem.W.codeIn K (.ref cT3) "made_of" = true) (k3 : PySem.W.keepIn K (.ref f3) = true)
    (a4 : PySem.W.nsIn K mainGlobals "read_number" = some (some (.ref f4))) (l4 : K.lookup f4 = some ⟨oc4, od4, .func (PySem.W.fnOf "read_number" "read_number" (defArgs s_read_number) (defBody s_read_number) (defScope s_read_number) .none kV4 dc4 pm4 an4 cd4 ct4), sl4⟩) (c4 : PySem.W.codeIn K cd4 "read_number" = true) (k4 : PySem.W.keepIn K (.ref f4) = true)
    (a5 : PySem.W.nsIn K mainGlobals "within_bounds" = some (some (.ref f5))) (l5 : K.lookup f5 = some ⟨oc5, od5, .func (PySem.W.fnOf "within_bounds" "within_bounds" (defArgs s_within_bounds) (defBody s_within_bounds) (defScope s_within_bounds) .none kV5 dc5 pm5 an5 cd5 ct5), sl5⟩) (c5 : PySem.W.codeIn K cd5 "within_bounds" = true) (k5 : PySem.W.keepIn K (.ref f5) = true)
    (a6 : PySem.W.nsIn K mainGlobals "read_thing" = some (some (.ref f6))) (l6 : K.lookup f6 = some ⟨oc6, od6, .func (PySem.W.fnOf "read_thing" "read_thing" (defArgs s_read_thing) (defBody s_read_thing) (defScope s_read_thing) .none kV6 dc6 pm6 an6 cd6 ct6), sl6⟩) (c6 : PySem.W.codeIn K cd6 "read_thing" = true) (k6 : PySem.W.keepIn K (.ref f6) = true)
    (a7 : PySem.W.nsIn K mainGlobals "read_content" = some (some (.ref f7))) (l7 : K.lookup f7 = some ⟨oc7, od7, .func (PySem.W.fnOf "read_content" "read_content" (defArgs s_read_content) (defBody s_read_content) (defScope s_read_content) .none kV7 dc7 pm7 an7 cd7 ct7), sl7⟩) (c7 : PySem.W.codeIn K cd7 "read_content" = true) (k7 : PySem.W.keepIn K (.ref f7) = true)
    (a8 : PySem.W.nsIn K mainGlobals "_law_draws" = some (some (.ref f8))) (l8 : K.lookup f8 = some ⟨oc8, od8, .func (PySem.W.fnOf "_law_draws" "_law_draws" (defArgs s_law_draws) (defBody s_law_draws) (defScope s_law_draws) .none kV8 dc8 pm8 an8 cd8 ct8), sl8⟩) (c8 : PySem.W.codeIn K cd8 "_law_draws" = true) (k8 : PySem.W.keepIn K (.ref f8) = true)
    (a9 : PySem.W.nsIn K mainGlobals "_law_pop" = some (some (.ref f9))) (l9 : K.lookup f9 = some ⟨oc9, od9, .func (PySem.W.fnOf "_law_pop" "_law_pop" (defArgs s_law_pop) (defBody s_law_pop) (defScope s_law_pop) .none kV9 dc9 pm9 an9 cd9 ct9), sl9⟩) (c9 : PySem.W.codeIn K cd9 "_law_pop" = true) (k9 : PySem.W.keepIn K (.ref f9) = true)
    (a10 : PySem.W.nsIn K mainGlobals "_law_whole" = some (some (.ref f10))) (l10 : K.lookup f10 = some ⟨oc10, od10, .func (PySem.W.fnOf "_law_whole" "_law_whole" (defArgs s_law_whole) (defBody s_law_whole) (defScope s_law_whole) .none kV10 dc10 pm10 an10 cd10 ct10), sl10⟩) (c10 : PySem.W.codeIn K cd10 "_law_whole" = true) (k10 : PySem.W.keepIn K (.ref f10) = true)
    (a11 : PySem.W.nsIn K mainGlobals "_law_numbers" = some (some (.ref f11))) (l11 : K.lookup f11 = some ⟨oc11, od11, .func (PySem.W.fnOf "_law_numbers" "_law_numbers" (defArgs s_law_numbers) (defBody s_law_numbers) (defScope s_law_numbers) .none kV11 dc11 pm11 an11 cd11 ct11), sl11⟩) (c11 : PySem.W.codeIn K cd11 "_law_numbers" = true) (k11 : PySem.W.keepIn K (.ref f11) = true)
    (a12 : PySem.W.nsIn K mainGlobals "_law_want" = some (some (.ref f12))) (l12 : K.lookup f12 = some ⟨oc12, od12, .func (PySem.W.fnOf "_law_want" "_law_want" (defArgs s_law_want) (defBody s_law_want) (defScope s_law_want) .none kV12 dc12 pm12 an12 cd12 ct12), sl12⟩) (c12 : PySem.W.codeIn K cd12 "_law_want" = true) (k12 : PySem.W.keepIn K (.ref f12) = true)
    (a13 : PySem.W.nsIn K mainGlobals "_law_cases" = some (some (.ref f13))) (l13 : K.lookup f13 = some ⟨oc13, od13, .func (PySem.W.fnOf "_law_cases" "_law_cases" (defArgs s_law_cases) (defBody s_law_cases) (defScope s_law_cases) .none kV13 dc13 pm13 an13 cd13 ct13), sl13⟩) (c13 : PySem.W.codeIn K cd13 "_law_cases" = true) (k13 : PySem.W.keepIn K (.ref f13) = true)
    (a14 : PySem.W.nsIn K mainGlobals "_law_names" = some (some (.ref f14))) (l14 : K.lookup f14 = some ⟨oc14, od14, .func (PySem.W.fnOf "_law_names" "_law_names" (defArgs s_law_names) (defBody s_law_names) (defScope s_law_names) .none kV14 dc14 pm14 an14 cd14 ct14), sl14⟩) (c14 : PySem.W.codeIn K cd14 "_law_names" = true) (k14 : PySem.W.keepIn K (.ref f14) = true)
    (a15 : PySem.W.nsIn K mainGlobals "_law_content_text" = some (some (.ref f15))) (l15 : K.lookup f15 = some ⟨oc15, od15, .func (PySem.W.fnOf "_law_content_text" "_law_content_text" (defArgs s_law_content_text) (defBody s_law_content_text) (defScope s_law_content_text) .none kV15 dc15 pm15 an15 cd15 ct15), sl15⟩) (c15 : PySem.W.codeIn K cd15 "_law_content_text" = true) (k15 : PySem.W.keepIn K (.ref f15) = true)
    (lc3 : K.lookup cT3 = some ⟨eT3, dT3, .fields vT3, sT3⟩) (hv3 : vT3[11]? = some (.ref PT3)) (nt3 : (K.lookup PT3).isNone = true) (rc3 : ((recsOf q).find? fun e => e.name == ("made_of" : Str)).isSome = true)
    (z1 : PySem.W.nsIn K mainGlobals "len" = some none)
    (z2 : PySem.W.nsIn K mainGlobals "range" = some none)
    (z3 : PySem.W.nsIn K mainGlobals "max" = some none)
    (z4 : PySem.W.nsIn K mainGlobals "list" = some none)
    (z5 : PySem.W.nsIn K mainGlobals "isinstance" = some none)
    (z6 : PySem.W.nsIn K mainGlobals "int" = some none)
    (z7 : PySem.W.nsIn K mainGlobals "bool" = some none)
    (z8 : PySem.W.nsIn K mainGlobals "enumerate" = some none)
    (z9 : PySem.W.nsIn K mainGlobals "all" = some none)
    (z10 : PySem.W.nsIn K mainGlobals "zip" = some none)
    (z11 : PySem.W.nsIn K mainGlobals "reversed" = some none)
    (z12 : PySem.W.nsIn K mainGlobals "sum" = some none)
    (z13 : PySem.W.nsIn K mainGlobals "sorted" = some none)
    (z14 : PySem.W.nsIn K mainGlobals "tuple" = some none)
    (z15 : PySem.W.nsIn K mainGlobals "any" = some none)
    (z16 : PySem.W.nsIn K mainGlobals "min" = some none)
    (z17 : PySem.W.nsIn K mainGlobals "str" = some none)
    (z18 : PySem.W.nsIn K mainGlobals "abs" = some none)
    (z19 : PySem.W.nsIn K mainGlobals "set" = some none)
    {tk1 : Tok} (q1 : PySem.W.nsIn K mainGlobals "FIGURES" = some (some (.str "0123456789" tk1)))
    {tk2 : Tok} (q2 : PySem.W.nsIn K mainGlobals "MOST_LESSER" = some (some (.int 400 tk2)))
    {tk3 : Tok} (q3 : PySem.W.nsIn K mainGlobals "THING_FIGURES" = some (some (.int 1 tk3)))
    : LamX.LawAtS l w K CX0 5 63 "_law_script" mg fa h := by
  have e := hfa.symm.trans (PySem.W.mg_of X G a1)
  cases e
  have F1 := fun_mk (st := s_law) l1 c1 k1
  have b1 := F1.binds (ps := ["_law_script"]) fun _ _ _ _ _ _ us hl => match us, hl with | [_], _ => rfl
  have F2 := fun_mk (st := s_show_content) l2 c2 k2
  have b2 := F2.binds (ps := ["names", "content"]) fun _ _ _ _ _ _ us hl => match us, hl with | [_, _], _ => rfl
  have F3 := fun_mk (st := s_made_of) l3 c3 k3
  have b3 := F3.binds (ps := ["signs", "text", "most"]) fun _ _ _ _ _ _ us hl => match us, hl with | [_, _, _], _ => rfl
  have F4 := fun_mk (st := s_read_number) l4 c4 k4
  have b4 := F4.binds (ps := ["text", "figures"]) fun _ _ _ _ _ _ us hl => match us, hl with | [_, _], _ => rfl
  have F5 := fun_mk (st := s_within_bounds) l5 c5 k5
  have b5 := F5.binds (ps := ["content"]) fun _ _ _ _ _ _ us hl => match us, hl with | [_], _ => rfl
  have F6 := fun_mk (st := s_read_thing) l6 c6 k6
  have b6 := F6.binds (ps := ["names", "text"]) fun _ _ _ _ _ _ us hl => match us, hl with | [_, _], _ => rfl
  have F7 := fun_mk (st := s_read_content) l7 c7 k7
  have b7 := F7.binds (ps := ["names", "text"]) fun _ _ _ _ _ _ us hl => match us, hl with | [_, _], _ => rfl
  have F8 := fun_mk (st := s_law_draws) l8 c8 k8
  have b8 := F8.binds (ps := ["_law_script", "_law_turn", "_law_many"]) fun _ _ _ _ _ _ us hl => match us, hl with | [_, _, _], _ => rfl
  have F9 := fun_mk (st := s_law_pop) l9 c9 k9
  have b9 := F9.binds (ps := ["_law_draws_here"]) fun _ _ _ _ _ _ us hl => match us, hl with | [_], _ => rfl
  have F10 := fun_mk (st := s_law_whole) l10 c10 k10
  have b10 := F10.binds (ps := ["_law_found"]) fun _ _ _ _ _ _ us hl => match us, hl with | [_], _ => rfl
  have F11 := fun_mk (st := s_law_numbers) l11 c11 k11
  have b11 := F11.binds (ps := ["_law_found", "_law_due"]) fun _ _ _ _ _ _ us hl => match us, hl with | [_, _], _ => rfl
  have F12 := fun_mk (st := s_law_want) l12 c12 k12
  have b12 := F12.binds (ps := ["_law_draws_here", "_law_many"]) fun _ _ _ _ _ _ us hl => match us, hl with | [_, _], _ => rfl
  have F13 := fun_mk (st := s_law_cases) l13 c13 k13
  have b13 := F13.binds (ps := ["_law_want_here"]) fun _ _ _ _ _ _ us hl => match us, hl with | [_], _ => rfl
  have F14 := fun_mk (st := s_law_names) l14 c14 k14
  have b14 := F14.binds (ps := ["_law_draws_here", "_law_many"]) fun _ _ _ _ _ _ us hl => match us, hl with | [_, _], _ => rfl
  have F15 := fun_mk (st := s_law_content_text) l15 c15 k15
  have b15 := F15.binds (ps := ["_law_names_here", "_law_content"]) fun _ _ _ _ _ _ us hl => match us, hl with | [_, _], _ => rfl
  have M : Names mg := ⟨PySem.W.mg_none_of X G z1, PySem.W.mg_none_of X G z2, PySem.W.mg_none_of X G z3, PySem.W.mg_none_of X G z4, PySem.W.mg_none_of X G z5, PySem.W.mg_none_of X G z6, PySem.W.mg_none_of X G z7, PySem.W.mg_none_of X G z8, PySem.W.mg_none_of X G z9, PySem.W.mg_none_of X G z10, PySem.W.mg_none_of X G z11, PySem.W.mg_none_of X G z12, PySem.W.mg_none_of X G z13, PySem.W.mg_none_of X G z14, PySem.W.mg_none_of X G z15, PySem.W.mg_none_of X G z16, PySem.W.mg_none_of X G z17, PySem.W.mg_none_of X G z18, PySem.W.mg_none_of X G z19, ⟨_, PySem.W.mg_of X G q1⟩, ⟨_, PySem.W.mg_of X G q2⟩, ⟨_, PySem.W.mg_of X G q3⟩⟩
  obtain ⟨hd3, ht3⟩ := tabs "made_of" cT3 PT3 rc3 (tabIn_of a3 l3 rfl lc3 hv3)
  refine ⟨PySem.W.fnOf "law" "law" (defArgs s_law) (defBody s_law) (defScope s_law) .none kV1 dc1 pm1 an1 cd1 ct1, [(cT3, PT3)], sp_law K PT3, ?hT, ?nT, ?hC, fun s v => .of_eq rfl, fun H a ns hl _ hT hS => ⟨a, ns, rfl, hS, hl, ⟨#[], hT (cT3, PT3) List.mem_cons_self, True.intro⟩, fun _ => rfl⟩, fun base _ _ hB => ?_⟩
  case hT =>
    exact fun p hp => by
      rcases List.mem_cons.mp hp with rfl | hp
      · exact ht3
      cases hp
  case nT =>
    exact fun p hp => by
      rcases List.mem_cons.mp hp with rfl | hp
      · exact Option.isNone_iff_eq_none.mp nt3
      cases hp
  case hC =>
    exact fun p hp => by
      rcases List.mem_cons.mp hp with rfl | hp
      · exact hd3
      cases hp
  have T3 := hB (cT3, PT3) List.mem_cons_self
  exact ok_law M ⟨F1, PySem.W.mg_of X G a1, b1⟩ ⟨F2, PySem.W.mg_of X G a2, b2⟩ ⟨F3, PySem.W.mg_of X G a3, b3⟩ ⟨F4, PySem.W.mg_of X G a4, b4⟩ ⟨F5, PySem.W.mg_of X G a5, b5⟩ ⟨F6, PySem.W.mg_of X G a6, b6⟩ ⟨F7, PySem.W.mg_of X G a7, b7⟩ ⟨F8, PySem.W.mg_of X G a8, b8⟩ ⟨F9, PySem.W.mg_of X G a9, b9⟩ ⟨F10, PySem.W.mg_of X G a10, b10⟩ ⟨F11, PySem.W.mg_of X G a11, b11⟩ ⟨F12, PySem.W.mg_of X G a12, b12⟩ ⟨F13, PySem.W.mg_of X G a13, b13⟩ ⟨F14, PySem.W.mg_of X G a14, b14⟩ ⟨F15, PySem.W.mg_of X G a15, b15⟩ rfl ⟨T3.code, T3.bm, T3.gP⟩
end Pk
open PySem PySem.W PyProof.Rows
set_option maxHeartbeats 0 in
theorem PySem.Challenge.cw_packwants_k36_contents_as_texts_holds : PySem.Challenge.rw_packwants_k36_contents_as_texts.Holds := by
  w_on; o_law; k_head; (case hw => w_witness2)
  k_fill
  refine Pk.walk_ofG (l := PySem.Challenge.rw_packwants_k36_contents_as_texts) (n := 63) (k := 5) (x := "_law_script") (CX := fun _ => L2.CX0) rfl (by decide) rfl ⟨rfl, by decide, by decide⟩ (fun w h Y => PySem.W.kIn_of Y) ?F (fun _ _ _ _ _ h => h)
  case F =>
    intro w mg fa h KX G hmg tabs
    refine' Pk.all_mk KX G hmg tabs ?a1 ?l1 ?c1 ?k1 ?a2 ?l2 ?c2 ?k2 ?a3 ?l3 ?c3 ?k3 ?a4 ?l4 ?c4 ?k4 ?a5 ?l5 ?c5 ?k5 ?a6 ?l6 ?c6 ?k6 ?a7 ?l7 ?c7 ?k7 ?a8 ?l8 ?c8 ?k8 ?a9 ?l9 ?c9 ?k9 ?a10 ?l10 ?c10 ?k10 ?a11 ?l11 ?c11 ?k11 ?a12 ?l12 ?c12 ?k12 ?a13 ?l13 ?c13 ?k13 ?a14 ?l14 ?c14 ?k14 ?a15 ?l15 ?c15 ?k15 ?lc3 ?hv3 ?nt3 ?rc3 ?z1 ?z2 ?z3 ?z4 ?z5 ?z6 ?z7 ?z8 ?z9 ?z10 ?z11 ?z12 ?z13 ?z14 ?z15 ?z16 ?z17 ?z18 ?z19 ?q1 ?q2 ?q3
    (case a1 => k_is); (case l1 => k_is); (case c1 => k_is); (case k1 => k_is); (case a2 => k_is); (case l2 => k_is); (case c2 => k_is); (case k2 => k_is); (case a3 => k_is); (case l3 => k_is); (case c3 => k_is); (case k3 => k_is); (case a4 => k_is); (case l4 => k_is); (case c4 => k_is); (case k4 => k_is); (case a5 => k_is); (case l5 => k_is); (case c5 => k_is); (case k5 => k_is); (case a6 => k_is); (case l6 => k_is); (case c6 => k_is); (case k6 => k_is); (case a7 => k_is); (case l7 => k_is); (case c7 => k_is); (case k7 => k_is); (case a8 => k_is); (case l8 => k_is); (case c8 => k_is); (case k8 => k_is); (case a9 => k_is); (case l9 => k_is); (case c9 => k_is); (case k9 => k_is); (case a10 => k_is); (case l10 => k_is); (case c10 => k_is); (case k10 => k_is); (case a11 => k_is); (case l11 => k_is); (case c11 => k_is); (case k11 => k_is); (case a12 => k_is); (case l12 => k_is); (case c12 => k_is); (case k12 => k_is); (case a13 => k_is); (case l13 => k_is); (case c13 => k_is); (case k13 => k_is); (case a14 => k_is); (case l14 => k_is); (case c14 => k_is); (case k14 => k_is); (case a15 => k_is); (case l15 => k_is); (case c15 => k_is); (case k15 => k_is); (case lc3 => k_is); (case hv3 => rfl); (case nt3 => rfl); (case rc3 => rfl); (case z1 => k_is); (case z2 => k_is); (case z3 => k_is); (case z4 => k_is); (case z5 => k_is); (case z6 => k_is); (case z7 => k_is); (case z8 => k_is); (case z9 => k_is); (case z10 => k_is); (case z11 => k_is); (case z12 => k_is); (case z13 => k_is); (case z14 => k_is); (case z15 => k_is); (case z16 => k_is); (case z17 => k_is); (case z18 => k_is); (case z19 => k_is); (case q1 => k_is); (case q2 => k_is); (case q3 => k_is)
