import PyProof.Rows.All
import Wide.All
import OpenK.AllK
import Wide.FinOn
import HandS.ForMost
import HandS.IsInst
import HandS.Wide
import HandS.Walk
import HandS.Flow
import HandS.AnyAll
import HandS.EndTab
import HandS.Deep
import HandS.Style
import HandS.Conv
import HandS.DictTup
import HandS.SortInts
import KE.DataCmp
import KE.SortData
import KE.BitLaws
import KE.DataFind
import PyProof.ReprRoads
import PyProof.Rows.ReprOcc
import HandS.FStr
import HandS.StrMore
import HandS.Exc
import HandS.ExcInit
import HandS.ExcIs
import HandS.ExcField
import HandS.WordsExc
import HandS.ExcValue
import HandS.SetFor
import HandS.RevRange
import HandS.GenList
import HandS.DictComp
import PyProof.SumAny
import HandS.Star
import HandS.WideBits
import KE.KeyNested
import KE.KDictKeyed
import HandS.Strs
import HandS.CallLocal
import HandS.More
import HandS.RaiseFrom
import HandS.SuiteRaise
import HandS.TryOnly
import HandS.Small
import HandS.ExcInitHot
import KE.GoesRaise
import KE.KExcIs
import PySem.Challenge.RW_packwants_k15_tables_looked_at
set_option Elab.async false
set_option linter.all false
set_option maxRecDepth 100000
set_option maxHeartbeats 4000000
namespace Pk
open PySem PySem.Spec PyProof.Rows L2
def topS (i : Nat) : Stmt := PySem.Challenge.pw_packwants_k15_tables_looked_at.main.body.getD i (.Pass ⟨0, 0, 0, 0⟩)
/-! ### heaps and plain data -/
theorem same_upd {H : Hp} {p : Addr} {o : HO} (h : H p = none) : Same H (upd H p o) := fun b x e => by
  rw [upd_ne (ne_of_none e h)]
  exact e
/-- all but a is as it was -/
def SameBut (a : Addr) (H H' : Hp) : Prop := ∀ b o, b ≠ a → H b = some o → H' b = some o
theorem SameBut.of {a : Addr} {H H' : Hp} (h : Same H H') : SameBut a H H' := fun b o _ e => h b o e
theorem SameBut.refl (a : Addr) (H : Hp) : SameBut a H H := fun _ _ _ e => e
theorem SameBut.trans {a : Addr} {H H1 H2 : Hp} (h : SameBut a H H1) (k : SameBut a H1 H2) : SameBut a H H2 := fun b o n e => k b o n (h b o n e)
theorem SameBut.upd {a : Addr} {H : Hp} {o : HO} : SameBut a H (upd H a o) := fun b x n e => by
  rw [upd_ne n]
  exact e
theorem SameBut.new {a p : Addr} {H H' : Hp} {o : HO} (h : SameBut a H H') (hp : H p = none) : SameBut a H (L2.upd H' p o) := fun b x n e => by
  rw [upd_ne (ne_of_none e hp)]
  exact h b x n e
/-- what was not there at the start may change -/
theorem sm_new {p : Addr} {H H' : Hp} {o : HO} (h : Same H H') (hp : H p = none) : Same H (L2.upd H' p o) := fun b x e => by
  rw [upd_ne (ne_of_none e hp)]
  exact h b x e
theorem SameBut.free {a p : Addr} {H H' : Hp} (h : SameBut a H H') (n : H' p = none) (ha : H' a ≠ none) : H p = none := by
  cases q : H p with
  | none => rfl
  | some o =>
    by_cases e : p = a
    · subst e
      exact absurd n ha
    · rw [h p o e q] at n
      cases n
/-- a list of ints -/
abbrev LI (ns : List Int) : HO := .lst (ns.map V.int)
theorem dpAll_ints {K : PySem.W.Frag} {H : Hp} : ∀ ns : List Int, DpAll K H (ns.map V.int) (ns.map PyData.int)
  | [] => .nil
  | n :: r => .cons (.int n) (dpAll_ints r)
theorem dp_ints {K : PySem.W.Frag} {H : Hp} {a : Addr} {ns : List Int} (h : SqL K H a (ns.map V.int)) : Dp K H (.ref a) (.list (ns.map PyData.int)) := .lst h (dpAll_ints ns)
theorem lay_ints : ∀ ns : List Int, PyData.canLayAll0 (ns.map PyData.int) = true
  | [] => by simp [PyData.canLayAll0]
  | n :: r => by
    have ih := lay_ints r
    simp [PyData.canLayAll0, PyData.canLay0, ih]
theorem depth_ints : ∀ ns : List Int, PyData.depthAll (ns.map PyData.int) = 0
  | [] => by simp [PyData.depthAll]
  | n :: r => by
    have ih := depth_ints r
    simp [PyData.depthAll, PyData.depth, ih]
theorem shaped_ints (ns : List Int) : SeqAt.shaped (.list (ns.map PyData.int)) = true := by
  unfold SeqAt.shaped
  have h1 : PyData.canLay0 (.list (ns.map PyData.int)) = true := by
    simp only [PyData.canLay0]
    exact lay_ints ns
  have h2 : PyData.depth (.list (ns.map PyData.int)) ≤ 64 := by
    simp only [PyData.depth]
    rw [depth_ints]
    omega
  rw [h1, decide_eq_true h2]
  rfl
theorem eqvAll_ints : ∀ ns ms : List Int, PyData.eqvAll (ns.map PyData.int) (ms.map PyData.int) = decide (ns = ms)
  | [], [] => by simp [PyData.eqvAll]
  | [], _ :: _ => by simp [PyData.eqvAll]
  | _ :: _, [] => by simp [PyData.eqvAll]
  | n :: r, m :: q => by
    have ih := eqvAll_ints r q
    simp only [List.map_cons, PyData.eqvAll, PyData.eqv, ih]
    by_cases h1 : n = m <;> by_cases h2 : r = q <;> simp [h1, h2]
theorem eqv_ints (ns ms : List Int) : PyData.eqv (.list (ns.map PyData.int)) (.list (ms.map PyData.int)) = decide (ns = ms) := by
  simp only [PyData.eqv]
  exact eqvAll_ints ns ms
theorem li_app (ls : List Int) (n : Int) : HO.lst (ls.map V.int ++ [.int n]) = LI (ls ++ [n]) := by
  show _ = HO.lst ((ls ++ [n]).map V.int)
  rw [List.map_append]
  rfl
theorem li_set (ls : List Int) (j : Nat) (n : Int) : HO.lst ((ls.map V.int).set j (.int n)) = LI (ls.set j n) := by
  show _ = HO.lst ((ls.set j n).map V.int)
  rw [List.map_set]
theorem at_app {H : Hp} {a : Addr} {ls : List Int} {n : Int} : upd H a (.lst (ls.map V.int ++ [.int n])) a = some (LI (ls ++ [n])) := by rw [upd_same, li_app]
theorem at_set {H : Hp} {a : Addr} {ls : List Int} {j : Nat} {n : Int} : upd H a (.lst ((ls.map V.int).set j (.int n))) a = some (LI (ls.set j n)) := by rw [upd_same, li_set]
theorem szL {n : Nat} (h : n ≤ 100000) : n ≤ sizeLine := Nat.le_trans h (by decide)
theorem szL' {n : Nat} (h : n ≤ 100000) : n < sizeLine := Nat.lt_of_le_of_lt h (by decide)
theorem get_ints {ns : List Int} {i : Nat} {n : Int} (h : ns[i]? = some n) : (ns.map V.int)[i]? = some (.int n) := by
  rw [List.getElem?_map, h]
  rfl
theorem getD_ints {ns : List Int} {i : Nat} (h : i < ns.length) : (ns.map V.int)[i]? = some (.int ns[i]) := get_ints (List.getElem?_eq_getElem h)
theorem of_get_ints {ns : List Int} {i : Nat} {v : V} (h : (ns.map V.int)[i]? = some v) : ∃ n, ns[i]? = some n ∧ v = .int n := by
  rw [List.getElem?_map] at h
  cases e : ns[i]? with
  | none => rw [e] at h; cases h
  | some n => rw [e] at h; exact ⟨n, rfl, (Option.some.inj h).symm⟩
/-- i % n as a place -/
theorem mod_at {i : Int} {n : Nat} (h : 0 < n) : ∃ j : Nat, j < n ∧ i % (n : Int) = (j : Int) := by
  have h1 : 0 ≤ i % (n : Int) := Int.emod_nonneg i (by omega)
  have h2 : i % (n : Int) < (n : Int) := Int.emod_lt_of_pos i (by omega)
  exact ⟨(i % (n : Int)).toNat, by omega, by omega⟩
theorem ixN_nat {n j : Nat} (h : j < n) : ixN n (j : Int) = some j := by
  unfold ixN
  rw [if_pos (by omega), if_pos (by omega), Int.toNat_natCast]
theorem take_succ_at {α : Type} {l : List α} {i : Nat} {x : α} (h : l[i]? = some x) : l.take (i + 1) = l.take i ++ [x] := by
  rw [List.take_add_one, h]
  rfl
/-- a def of the top: where it stands -/
structure Def (K : PySem.W.Frag) (mg : Str → Option Value) (x : Str) (st : Stmt) (ps : List Str) (f : Addr) (fd : FuncData) : Prop where
  F : Fun K x x st f fd
  g : mg x = some (.ref f)
  b : Binds K fd ps []
/-! ### rules at a written K (for a comprehension's block) -/
section
variable {X : Cx} {K : PySem.W.Frag}
theorem ix_listK (h : X.K = K) : IxR X (rIxL K) := by subst h; exact ix_list
theorem ix_tupK (h : X.K = K) : IxR X (rIxT K) := by subst h; exact ix_tup
theorem call_len_seqK (h : X.K = K) : CallR X (.builtin "len") (fun xs H Q => ∃ p ys, xs = [.ref p] ∧ (SqL K H p ys ∨ SqT K H p ys) ∧ Q (.int ys.length) H) := by subst h; exact call_len_seq
theorem op_eqDK (h : X.K = K) (hu : X.A.units + 64 < cLine) : OpR X (compareOp .Eq) (rEqD K) := by subst h; exact op_eqD hu
theorem op_neDK (h : X.K = K) (hu : X.A.units + 64 < cLine) : OpR X (compareOp .NotEq) (rNeD K) := by subst h; exact op_neD hu
theorem cr_maxK (h : X.K = K) (hc : X.calm = true) : CallR X (.builtin "max") (rMax K) := by subst h; exact cr_max hc
theorem cr_sumK (h : X.K = K) (hc : X.calm = true) : CallR X (.builtin "sum") (rSum K) := by subst h; exact cr_sum hc
theorem call_list_ofK (h : X.K = K) : CallR X (.type "list") (fun xs H Q => ∃ p ys, xs = [.ref p] ∧ (SqL K H p ys ∨ SqT K H p ys) ∧ ∀ l, H l = none → Q (.ref l) (upd H l (.lst ys))) := by subst h; exact call_list_of
theorem pi_listK {tg l : Expr} {tl : TE} (h : X.K = K) (hl : PE X l tl) : PI X tg l (iList K tl) := by subst h; exact pi_list hl
theorem pi_tupK {tg l : Expr} {tl : TE} (h : X.K = K) (hl : PE X l tl) : PI X tg l (iTup K tl) := by subst h; exact pi_tup hl
theorem pg_tupK {es : List Expr} {k : Nat} {t : TGs} {n : Nat} {pos : Pos} (hK : X.K = K) (hc : X.calm = true) (h : PGs X es t)
    (hn : (assignEach es X.env).length = n := by rfl) (hst : (assignEach es X.env).findIdx? (·.1) = none := by rfl) : PG X (.Tuple es k pos) (gTup K n t) := by subst hK; exact pg_tup hc h hn hst
end
/-! ### a statement whose ends are joined by what holds behind it -/
def tCutI (t u : TS) : TS := fun D σ H => ∃ I : L2.St → Hp → Prop, t { D with nx := I } σ H ∧ ∀ σ' H', I σ' H' → u D σ' H'
theorem pss_cutI {X : Cx} {st : Stmt} {rest : List Stmt} {t u : TS} (h1 : PS X st t) (h2 : PSs X rest u) : PSs X (st :: rest) (tCutI t u) := by
  refine ⟨fun pins s σ H D I h => ?_⟩
  obtain ⟨J, h, hJ⟩ := h
  refine wpAny_execs_cons (thn (h1.run pins s σ H { D with nx := J } I h) fun f s1 q => ?_)
  cases f with
  | next =>
    obtain ⟨σ', H', I', q⟩ := q
    exact h2.run pins s1 σ' H' D I' (hJ σ' H' q)
  | ret v => exact q
  | brk => exact q
  | cont => exact q
/-- data: lists of lists of ints -/
abbrev dRows (rs : List (List Int)) : PyData := .list (rs.map fun r => .list (r.map PyData.int))
theorem lay_rows : ∀ rs : List (List Int), PyData.canLayAll0 (rs.map fun r => .list (r.map PyData.int)) = true
  | [] => by simp [PyData.canLayAll0]
  | r :: q => by
    have ih := lay_rows q
    have h1 := lay_ints r
    simp [PyData.canLayAll0, PyData.canLay0, ih, h1]
theorem depth_rows : ∀ rs : List (List Int), PyData.depthAll (rs.map fun r => .list (r.map PyData.int)) ≤ 1
  | [] => by simp [PyData.depthAll]
  | r :: q => by
    have ih := depth_rows q
    have h1 := depth_ints r
    simp only [List.map_cons, PyData.depthAll, PyData.depth]
    omega
theorem shaped_rows (rs : List (List Int)) : SeqAt.shaped (dRows rs) = true := by
  unfold SeqAt.shaped
  have h1 : PyData.canLay0 (dRows rs) = true := by
    simp only [PyData.canLay0]
    exact lay_rows rs
  have h2 : PyData.depth (dRows rs) ≤ 64 := by
    have := depth_rows rs
    simp only [PyData.depth]
    omega
  rw [h1, decide_eq_true h2]
  rfl
theorem eqv_self {d : PyData} (h : SeqAt.shaped d = true) : PyData.eqv d d = true := SeqAt.eqv_refl d (SeqAt.canLay_of_shaped h)
/-- the built-in names that the top leaves alone, and its constants -/
structure Names (mg : Str → Option Value) : Prop where
  len : mg "len" = none
  range : mg "range" = none
  max : mg "max" = none
  list : mg "list" = none
  isinstance : mg "isinstance" = none
  int : mg "int" = none
  bool : mg "bool" = none
  enumerate : mg "enumerate" = none
  all : mg "all" = none
  zip : mg "zip" = none
  reversed : mg "reversed" = none
  sum : mg "sum" = none
  sorted : mg "sorted" = none
  tuple : mg "tuple" = none
  any : mg "any" = none
  min : mg "min" = none
  str : mg "str" = none
  abs : mg "abs" = none
  c_MOST_TIERS : ∃ t, mg "MOST_TIERS" = some (.int 4 t)
  c_MOST_PIECES : ∃ t, mg "MOST_PIECES" = some (.int 12 t)
/-! ### generator expressions whose element is quiet: the def's code table may grow, all else stands -/
/-- what is no bare record is not the table -/
theorem tab_ne {X : Cx} {pins : List (Addr × Obj)} {σ : L2.St} {H1 : Hp} {s1 : Shared} {P : Addr} (I : Inv X pins σ H1 s1) (h : GxR.TabG H1 P) {b : Addr} {o : Obj} (e : s1.heap.get? b = some o) (c : o.cls ≠ .none ∨ ∀ vs, o.data ≠ .fields vs) : b ≠ P := by
  rintro rfl
  obtain ⟨ps, isTab, _⟩ := h
  have q : s1.heap.get? b = some { cls := .none, data := .fields ps } := I.hok b _ isTab
  cases q.symm.trans e
  exact c.elim (fun z => z rfl) (fun z => z _ rfl)
/-- from h2 to h3 the table at P has grown by some entries, and all else stands -/
structure Longer (P : Addr) (h2 h3 : Heap) (ps more : Array Value) : Prop where
  rest : Heap.ExtBut P h2 h3
  size : h2.objs.size ≤ h3.objs.size
  table : h3.get? P = some { cls := .none, data := .fields (ps ++ more) }
  good : TriplesOk (ps ++ more).toList
/-- the expression's own scope: the walked thing at «.0», its names, and captured ones that are cells of the def; for two names -/
structure GenS2 (sc scope : Scope) (xa xb : Str) : Prop where
  kind : scope.kind = .function
  co : scope.isCoroutine = false
  cell : ∀ y ∈ scope.names, y.2 ≠ .cell
  dot : scope.names.lookup (".0" : Str) = some NameKind.local
  la : scope.names.lookup xa = some .local
  lb : scope.names.lookup xb = some .local
  ne : xa ≠ xb
  free : ∀ y ∈ scope.names, y.2 = .free → sc.names.lookup y.1 = some .cell
/-- for one -/
structure GenS1 (sc scope : Scope) (x : Str) : Prop where
  kind : scope.kind = .function
  co : scope.isCoroutine = false
  cell : ∀ y ∈ scope.names, y.2 ≠ .cell
  dot : scope.names.lookup (".0" : Str) = some NameKind.local
  la : scope.names.lookup x = some .local
  free : ∀ y ∈ scope.names, y.2 = .free → sc.names.lookup y.1 = some .cell
/-- what is said of the thing that is walked: it was made in s1, and stands in t -/
structure Walkee (X : Cx) (pins : List (Addr × Obj)) (σ : L2.St) (H1 : Hp) (P : Addr) (fp wr : List Addr) (s1 t : Shared) : Prop where
  inv : Inv X pins σ H1 s1
  tab : GxR.TabG H1 P
  same : ∃ h n, t = { s1 with heap := h, toks := n }
  keep : ∀ b o, s1.heap.get? b = some o → t.heap.get? b = some o
  size : s1.heap.objs.size ≤ t.heap.objs.size
  low : ∀ b ∈ fp, b < t.heap.objs.size ∧ b ≠ P
  new : ∀ b ∈ wr, s1.heap.objs.size ≤ b
/-- the generator g, ready to be walked, in the state s5; F: what each turn hands out -/
def Walked (X : Cx) (pins : List (Addr × Obj)) (σ : L2.St) (H1 : Hp) (P : Addr) (n : Nat) (F : Nat → Value → Prop) (g : Addr) (s5 : Shared) : Prop :=
  ∃ (fp wr : List Addr) (G : Array GenState → Array GenState → Prop) (F' : Nat → Value → Prop) (St : Nat → Shared → Prop),
    WalksS X.prog X.w X.A.in1 g fp wr G n F' St ∧ St 0 s5 ∧ (∀ b ∈ fp, b < s5.heap.objs.size) ∧ (∀ i v, F' i v → F i v) ∧ ∀ s', Moved wr G s5 s' → ∃ H2, GxR.Tabbed P H1 H2 ∧ Inv X pins σ H2 s'
/-- what the element may lean on: the frame cenv, the depth, and a heap in which all that stood in s1 stands but for the table -/
structure Turned (X : Cx) (P : Addr) (sc : Scope) (s1 : Shared) (cenv : Env) (A' : Around) (u : Shared) : Prop where
  own : cenv.scope = sc
  cells : cenv.cells = cloFrom X.env.cells sc.names []
  glob : cenv.globals = mainGlobals
  blt : cenv.builtins = builtinsNs
  calm : A'.handled = none
  deep : A'.depth ≤ X.A.depth + 1
  units : A'.units ≤ X.A.units + 8
  still : ∀ b o, b ≠ P → s1.heap.get? b = some o → u.heap.get? b = some o
section
variable {X : Cx} {pins : List (Addr × Obj)} {σ : L2.St} {H1 : Hp} {s1 t : Shared} {c P : Addr} {fp wr : List Addr} {h2 h3 : Heap} {ps more : Array Value}
/-- the code of the expression is looked up, or laid: then the table is longer -/
theorem tab_opens {gpos : Pos} {q : Str} {scope : Scope} {t2 : Nat} {R : Value → Addr → Shared → Prop} (TB : GxR.TabB X.base X.mg c P) (code : X.env.code = .ref c) (I : Inv X pins σ H1 s1) (isTab : H1 P = some (.tbl ps)) (good : TriplesOk ps.toList)
    (keep : ∀ b o, s1.heap.get? b = some o → h2.get? b = some o) (h : ∀ cv h3 n more, Longer P h2 h3 ps more → R cv builtinsNs { s1 with heap := h3, toks := n }) :
    wpAny (model X.prog X.w) X.A (genexprCode X.env gpos q scope) (fun cv t => wpAny (model X.prog X.w) X.A (builtinsFor X.env.globals X.env.builtins) (fun bi u => R cv bi u) X.xe t) X.xe { s1 with heap := h2, toks := t2 } := by
  have table : h2.get? P = some { cls := .none, data := .fields ps } := keep P _ (I.hok P _ isTab)
  have head : PySem.W.CodeHd h2 c P := TB.code.keeps fun b o e => keep b o (I.bk b o e)
  have go : ∀ cv h3 n more, Longer P h2 h3 ps more → wpAny (model X.prog X.w) X.A (builtinsFor X.env.globals X.env.builtins) (fun bi u => R cv bi u) X.xe { s1 with heap := h3, toks := n } := by
    intro cv h3 n more L
    obtain ⟨at_, ob, given, away, _, notTab, inBase, cls, dict, plain⟩ := TB.bm
    have globals : h3.Ns X.env.globals X.mg := I.ok.glob ▸ ((I.mod.glob.keeps I.bk).keeps keep).extBut L.rest TB.gP
    exact wpAny_builtinsFor globals given away (L.rest _ _ notTab (keep _ _ (I.bk _ _ inBase))) cls dict plain (h cv h3 n more L)
  cases found : codeAmong gpos ps.toList
  · refine wpAny_genexprCodeX code (head.code table good) (head.tab table) found fun c' h' n rest below above isCode _ isTable _ => go _ h' n _ ⟨rest, Nat.le_trans below (Nat.le_of_lt above), isTable.2, ?_⟩
    obtain ⟨_, _, _, _, _, _, _, _, _, _, _, _, _, _, _, _, _, _, _, triples, _⟩ := isCode
    exact triples
  · refine wpAny_genexprCode_hit code (head.code table good) found (go _ h2 t2 #[] ⟨Heap.ExtBut.refl _ _, Nat.le_refl _, ?_, ?_⟩)
    · rw [Array.append_empty]
      exact table
    · rw [Array.append_empty]
      exact good
/-- when it has been walked: what was held is held, but for the longer table -/
theorem tab_closes {h5 : Heap} {n : Nat} {gs : GenState} {j : Nat} {wr' : List Addr} {s' : Shared} (I : Inv X pins σ H1 s1) (isTab : H1 P = some (.tbl ps)) (keep : ∀ b o, s1.heap.get? b = some o → h2.get? b = some o) (L : Longer P h2 h3 ps more)
    (bare : gs.bare = true) (on : ∀ b o, h3.get? b = some o → h5.get? b = some o) (new : ∀ b ∈ wr', s1.heap.objs.size ≤ b) (mv : Moved wr' (GenOnlyQ j) { s1 with heap := h5, gens := s1.gens.push gs, toks := n } s') : ∃ H2, GxR.Tabbed P H1 H2 ∧ Inv X pins σ H2 s' := by
  have old : ∀ {b o}, s1.heap.get? b = some o → b ∉ wr' := fun e z => Nat.lt_irrefl _ (Nat.lt_of_lt_of_le (Heap.lt_size e) (new _ z))
  have J := GxR.inv_tab (h' := s'.heap) (g' := s'.gens) (d' := s'.drawn) (t' := s'.toks) I isTab (fun b o far e => mv.heap b o (old e) (on b o (L.rest b o far (keep b o e)))) (mv.heap P _ (old (I.hok P _ isTab)) (on P _ L.table)) (AllBare.movedS (I.bare.push bare) mv)
  exact ⟨upd H1 P (.tbl (ps ++ more)), ⟨⟨_, upd_same, L.good⟩, fun _ far => upd_ne far⟩, (GxR.sh_eta s1 s' mv.os) ▸ J⟩
theorem Walkee.statics (K : Walkee X pins σ H1 P fp wr s1 t) : cStatics ≠ P ∧ cStatics ∉ wr := by
  obtain ⟨_, names, _⟩ := K.inv.nolimit
  constructor
  · rintro rfl
    obtain ⟨ps, isTab, _⟩ := K.tab
    obtain ⟨ob, _, _, there, isNs, _⟩ := names
    have q : s1.heap.get? cStatics = some { cls := .none, data := .fields ps } := K.inv.hok _ _ isTab
    cases q.symm.trans there
    cases isNs
  · exact fun z => Nat.lt_irrefl _ (Nat.lt_of_lt_of_le names.lt (K.new _ z))
/-- all that stood in s1 stands where an element is reckoned -/
theorem Walkee.turned {scope : Scope} {code : Value} {href : Heap} {A' : Around} {u : Shared} (K : Walkee X pins σ H1 P fp wr s1 t) (L : Longer P t.heap h3 ps more) (on : ∀ b o, h3.get? b = some o → href.get? b = some o) (calm : A'.handled = none) (deep : A'.depth ≤ X.A.depth + 1) (units : A'.units ≤ X.A.units + 8)
    (still : ∀ b ∈ List.range h3.objs.size, b ∉ wr → ∀ o, href.get? b = some o → u.heap.get? b = some o) : Turned X P scope s1 (genEnv scope (cloFrom X.env.cells scope.names []) h3.objs.size code builtinsNs X.env) A' u where
  own := rfl
  cells := rfl
  glob := K.inv.ok.glob
  blt := rfl
  calm := calm
  deep := deep
  units := units
  still := fun b o far e =>
    have e3 := L.rest b o far (K.keep b o e)
    still b (List.mem_range.mpr (Heap.lt_size e3)) (fun z => Nat.lt_irrefl _ (Nat.lt_of_lt_of_le (Heap.lt_size e) (K.new b z))) o (on b o e3)
/-- the made generator is ready -/
theorem Walkee.ready {n : Nat} {F : Nat → Value → Prop} {g : Addr} {h5 : Heap} {n3 n5 : Nat} {gs : GenState} {j : Nat} {wr' fp' : List Addr} {St : Nat → Shared → Prop} (K : Walkee X pins σ H1 P fp wr s1 t) (isTab : H1 P = some (.tbl ps)) (L : Longer P t.heap h3 ps more)
    (bare : gs.bare = true) (above : h3.objs.size < g) (size : h5.objs.size = g + 1) (on : ∀ b o, h3.get? b = some o → h5.get? b = some o) (hf : ∀ b ∈ fp', b = g ∨ b = h3.objs.size ∨ b < h3.objs.size) (hw : ∀ b ∈ wr', b = h3.objs.size ∨ b ∈ wr)
    (W : WalksS X.prog X.w X.A.in4 g fp' wr' (GenOnlyQ j) (passing (fun _ => true) n 0).length (fun j y => ∃ i, (passing (fun _ => true) n 0)[j]? = some i ∧ F i y) St) (st : St 0 { ({ s1 with heap := h3, toks := n3 } : Shared) with gens := s1.gens.push gs, toks := n5, heap := h5 }) :
    Walked X pins σ H1 P n F g { ({ s1 with heap := h3, toks := n3 } : Shared) with gens := s1.gens.push gs, toks := n5, heap := h5 } := by
  rw [GxR.passing_true, List.length_range] at W
  refine ⟨_, _, _, _, _, W.in4_1, st, fun b hb => ?_, fun j y hy => ?_, fun s' mv => tab_closes K.inv isTab K.keep L bare on (fun b hb => ?_) mv⟩
  · show b < h5.objs.size
    rw [size]
    rcases hf b hb with rfl | rfl | z
    · exact Nat.lt_succ_self _
    · exact Nat.lt_succ_of_lt above
    · exact Nat.lt_succ_of_lt (Nat.lt_trans z above)
  · obtain ⟨i, at_, q⟩ := hy
    obtain ⟨_, e⟩ := List.getElem?_eq_some_iff.mp at_
    rw [List.getElem_range] at e
    exact e ▸ q
  · rcases hw b hb with rfl | z
    · exact Nat.le_trans K.size L.size
    · exact K.new b z
end
section
variable {X : Cx} {pins : List (Addr × Obj)} {σ : L2.St} {H : Hp} {s : Shared} {c P : Addr} {k : Nat} {Q' : Value → Shared → Prop}
/-- (element for a, b in iter): what is walked hands out pairs; the element gives what F says -/
theorem gen_pairs {elt iter : Expr} {xa xb : Str} {pa pb pt gpos : Pos} {kt : Nat} {scope : Scope} (hr : Room k X.A) (TB : GxR.TabB X.base X.mg c P) (hcode : X.env.code = .ref c) (S : GenS2 X.env.scope scope xa xb) (hs : ∀ v, genFold iter X.env v = pure v) (I : Inv X pins σ H s)
    (h : wpAny (model X.prog X.w) X.A (eval iter X.env) (fun xv t => wpAny (model X.prog X.w) X.A (pyIter xv) (fun it t2 => ∃ (Iad : Addr) (fp wr : List Addr) (n : Nat) (Pt : Nat → Array Value → Prop) (St : Nat → Heap → Prop) (Mid : Nat → Addr → Heap → Prop) (F : Nat → Value → Prop) (q : List (Addr × Obj)) (σ1 : L2.St) (H1 : Hp) (s1 : Shared),
      it = .ref Iad ∧ Walkee X q σ1 H1 P fp wr s1 t2 ∧ (∀ A' : Around, A'.handled = none → WalksU X.prog X.w A' Iad fp wr n Pt St Mid) ∧ (∀ i vals, Pt i vals → ∃ va vb, vals = #[va, vb]) ∧ St 0 t2.heap ∧
      (∀ (cenv : Env) (A' : Around) (E' : Value → Shared → Prop) (i : Nat) (va vb : Value) (u : Shared) (m : Str → Option Value), Turned X P scope s1 cenv A' u → Pt i #[va, vb] → u.heap.Ns cenv.locals m → m xa = some va → m xb = some vb →
        wpAny (model X.prog X.w) A' (eval elt cenv) (fun y u' => F i y ∧ Keeps u u') E' u) ∧
      ∀ g s5, Walked X q σ1 H1 P n F g s5 → Q' (.ref g) s5) X.xe t) X.xe s) :
    wpAny (model X.prog X.w) X.A (eval (.GeneratorExp elt [⟨.Tuple [.Name xa pa, .Name xb pb] kt pt, iter, [], 0⟩] scope gpos) X.env) Q' X.xe s := by
  have room := hr.dp
  refine wpAny_GeneratorExp_walksQTD hr.hd S.co (closure_ok fun y hy e => I.ok.has y.1 (.inl (S.free y hy e))) S.cell S.dot S.la S.lb S.ne S.kind (by omega) (wpAny_mono h (fun xv t h => wpAny_mono h (fun it t2 h => ?_) fun _ _ e => e) fun _ _ e => e) hs
  obtain ⟨Iad, fp, wr, n, Pt, St, Mid, F, q, σ1, H1, s1, rfl, K, W, two, st, turn, out⟩ := h
  obtain ⟨ps, isTab, good⟩ := K.tab
  obtain ⟨h2, n2, rfl⟩ := K.same
  have lim : h2.NoLimit := K.inv.nolimit.keeps K.keep
  refine ⟨lim, tab_opens TB hcode K.inv isTab good K.keep fun cv h3 n3 more L => ⟨Iad, fp, wr, n, Pt, St, Mid, fun _ => true, F, rfl, W, two, (W X.A hr.hd).frame _ _ _ st fun b hb o e => L.rest b o (K.low b hb).2 e, fun b hb => Nat.lt_of_lt_of_le (K.low b hb).1 L.size, lim.extBut L.rest K.statics.1, K.statics.2, fun href on => ⟨?_, ?_⟩, ?_⟩⟩
  · intro A' E' i va vb u m _ _ _ _ _ _ _ _
    exact wpAny_pure ⟨rfl, GxR.keeps_refl _⟩
  · intro A' E' i va vb u m calm deep units at_ _ ns ma mb still
    exact turn _ A' E' i va vb u m (K.turned L on calm deep units still) at_ ns ma mb
  · intro g h5 n5 gs bare above size on W5 st5
    refine out g _ (K.ready isTab L bare above size on (fun b hb => ?_) (fun b hb => List.mem_cons.mp hb) W5 st5)
    exact (List.mem_cons.mp hb).imp_right fun z => (List.mem_cons.mp z).imp_right List.mem_range.mp
/-- (element for a in iter) -/
theorem gen_ones {elt iter : Expr} {x : Str} {px gpos : Pos} {scope : Scope} (hr : Room k X.A) (TB : GxR.TabB X.base X.mg c P) (hcode : X.env.code = .ref c) (S : GenS1 X.env.scope scope x) (hs : ∀ v, genFold iter X.env v = pure v) (I : Inv X pins σ H s)
    (h : wpAny (model X.prog X.w) X.A (eval iter X.env) (fun xv t => wpAny (model X.prog X.w) X.A (pyIter xv) (fun it t2 => ∃ (Iad : Addr) (fp wr : List Addr) (n : Nat) (Pt : Nat → Value → Prop) (St : Nat → Heap → Prop) (F : Nat → Value → Prop) (q : List (Addr × Obj)) (σ1 : L2.St) (H1 : Hp) (s1 : Shared),
      it = .ref Iad ∧ Walkee X q σ1 H1 P fp wr s1 t2 ∧ (∀ A' : Around, A'.handled = none → Walks X.prog X.w A' Iad fp wr n Pt St) ∧ St 0 t2.heap ∧
      (∀ (cenv : Env) (A' : Around) (E' : Value → Shared → Prop) (i : Nat) (va : Value) (u : Shared) (m : Str → Option Value), Turned X P scope s1 cenv A' u → Pt i va → u.heap.Ns cenv.locals m → m x = some va →
        wpAny (model X.prog X.w) A' (eval elt cenv) (fun y u' => F i y ∧ Keeps u u') E' u) ∧
      ∀ g s5, Walked X q σ1 H1 P n F g s5 → Q' (.ref g) s5) X.xe t) X.xe s) :
    wpAny (model X.prog X.w) X.A (eval (.GeneratorExp elt [⟨.Name x px, iter, [], 0⟩] scope gpos) X.env) Q' X.xe s := by
  have room := hr.dp
  refine wpAny_GeneratorExp_walksQD hr.hd S.co (closure_ok fun y hy e => I.ok.has y.1 (.inl (S.free y hy e))) S.cell S.dot S.la S.kind (by omega) (wpAny_mono h (fun xv t h => wpAny_mono h (fun it t2 h => ?_) fun _ _ e => e) fun _ _ e => e) hs
  obtain ⟨Iad, fp, wr, n, Pt, St, F, q, σ1, H1, s1, rfl, K, W, st, turn, out⟩ := h
  obtain ⟨ps, isTab, good⟩ := K.tab
  obtain ⟨h2, n2, rfl⟩ := K.same
  have lim : h2.NoLimit := K.inv.nolimit.keeps K.keep
  refine ⟨lim, tab_opens TB hcode K.inv isTab good K.keep fun cv h3 n3 more L => ⟨Iad, fp, wr, n, Pt, St, fun _ => true, F, rfl, W, (W X.A hr.hd).frame _ _ _ st fun b hb o e => L.rest b o (K.low b hb).2 e, fun b hb => Nat.lt_of_lt_of_le (K.low b hb).1 L.size, lim.extBut L.rest K.statics.1, K.statics.2, fun href on => ⟨?_, ?_⟩, ?_⟩⟩
  · intro A' E' i va u m _ _ _ _ _ _ _
    exact wpAny_pure ⟨rfl, GxR.keeps_refl _⟩
  · intro A' E' i va u m calm deep units at_ _ ns ma still
    exact turn _ A' E' i va u m (K.turned L on calm deep units still) at_ ns ma
  · intro g h5 n5 gs bare above size on W5 st5
    refine out g _ (K.ready isTab L bare above size on (fun b hb => ?_) (fun b hb => List.mem_cons.mp hb) W5 st5)
    exact (List.mem_cons.mp hb).imp_right fun z => (List.mem_cons.mp z).imp_right List.mem_range.mp
/-- a built-in function of a generator expression alone -/
theorem call_gen {b : Str} {f : String} {ge : Expr} {p pos : Pos} {R : Value → Shared → Prop} (hg : Gl X b) (hm : X.mg b = none) (hb : bootBuiltins b = some (.builtin f)) (he : starEach [ge] X.env = (false, eval ge X.env) :: starEach [] X.env) (I : Inv X pins σ H s)
    (h : wpAny (model X.prog X.w) X.A (eval ge X.env) (fun v t => wpAny (model X.prog X.w) X.A (call (.builtin f) [v]) R X.xe t) X.xe s) (hd : (b == ("__debug__" : Str)) = false := by decide) (hn : b ≠ "__name__" := by decide) :
    wpAny (model X.prog X.w) X.A (eval (.Call (.Name b p) [ge] [] pos) X.env) R X.xe s := by
  refine wpAny_Call_Name_kw (ld_blt I hg hm hb (PyProof.Rows.callWith_builtin1 ?_ he (by rfl)) hn hd)
  rw [he]
  exact Calls.spliced_cons (wpAny_mono h (fun v t h => Calls.spliced_nil h) fun _ _ e => e)
theorem truth_of {A : Around} {F' : Nat → Value → Prop} {pb : Nat → Bool} (h : ∀ i v, F' i v → v = .bool (pb i)) : TruthOf X.prog X.w A F' pb := by
  intro i v t Q E at_ q
  cases h i v at_
  exact wpAny_truthy_bool q
end
/-! ### all(test for a, b in enumerate(list)) -/
def tAllE (K : PySem.W.Frag) (P : Addr) (R : L2.St → Hp → List V → (Nat → Bool) → Prop) (te : TE) : TE := fun σ H Q => te σ H fun v H1 => ∃ (a : Addr) (xs : List V) (pb : Nat → Bool), v = .ref a ∧ SqL K H1 a xs ∧ GxR.TabG H1 P ∧ R σ H1 xs pb ∧
  ∀ H2, GxR.Tabbed P H1 H2 → Q (.bl ((List.range xs.length).all pb)) H2
/-- what the element is to do at one pair -/
def EltE (X : Cx) (P : Addr) (scope : Scope) (xa xb : Str) (elt : Expr) (R : L2.St → Hp → List V → (Nat → Bool) → Prop) : Prop :=
  ∀ (pins : List (Addr × Obj)) (σ : L2.St) (H1 : Hp) (s1 : Shared) (xs : List V) (pb : Nat → Bool), Inv X pins σ H1 s1 → GxR.TabG H1 P → R σ H1 xs pb →
    ∀ (cenv : Env) (A' : Around) (E' : Value → Shared → Prop) (i : Nat) (v : V) (va vb : Value) (s₂ : Shared) (m₂ : Str → Option Value), cenv.scope = scope → cenv.cells = cloFrom X.env.cells scope.names [] → cenv.globals = mainGlobals → cenv.builtins = builtinsNs →
      A'.handled = none → A'.depth ≤ X.A.depth + 1 → A'.units ≤ X.A.units + 8 → xs[i]? = some v → (∃ t, va = .int (i : Nat) t) → RelV v vb → s₂.heap.Ns cenv.locals m₂ → m₂ xa = some va → m₂ xb = some vb → (∀ b o, b ≠ P → s1.heap.get? b = some o → s₂.heap.get? b = some o) →
      wpAny (model X.prog X.w) A' (eval elt cenv) (fun y s₃ => y = .bool (pb i) ∧ Keeps s₂ s₃) E' s₂
section
variable {X : Cx}
theorem pe_allEnum {c P : Addr} {elt e : Expr} {xa xb : Str} {pa pb' pt p pos gpos epos ep : Pos} {kt : Nat} {scope : Scope} {te : TE} {k : Nat} {R : L2.St → Hp → List V → (Nat → Bool) → Prop}
    (hr : Room k X.A) (hg : Gl X "all") (hm : X.mg "all" = none) (hb : bootBuiltins "all" = some (.builtin "all")) (hge : Gl X "enumerate") (hme : X.mg "enumerate" = none) (TB : GxR.TabB X.base X.mg c P) (hcode : X.env.code = .ref c) (S : GenS2 X.env.scope scope xa xb) (hi : PE X e te)
    (hel : EltE X P scope xa xb elt R)
    (hs : ∀ v, genFold (.Call (.Name "enumerate" ep) [e] [] epos) X.env v = pure v := by intro _; rfl)
    (hs1 : starEach [e] X.env = [(false, eval e X.env)] := by rfl)
    (he : starEach [.GeneratorExp elt [⟨.Tuple [.Name xa pa, .Name xb pb'] kt pt, .Call (.Name "enumerate" ep) [e] [] epos, [], 0⟩] scope gpos] X.env = (false, eval (.GeneratorExp elt [⟨.Tuple [.Name xa pa, .Name xb pb'] kt pt, .Call (.Name "enumerate" ep) [e] [] epos, [], 0⟩] scope gpos) X.env) :: starEach [] X.env := by rfl) :
    PE X (.Call (.Name "all" p) [.GeneratorExp elt [⟨.Tuple [.Name xa pa, .Name xb pb'] kt pt, .Call (.Name "enumerate" ep) [e] [] epos, [], 0⟩] scope gpos] [] pos) (tAllE X.K P R te) := by
  refine ⟨fun pins s σ H Q I h => call_gen hg hm hb he I (gen_pairs hr TB hcode S hs I (Call_ (ld_blt I hge hme boot_enumerate (PyProof.Rows.callWith_type1 ?_ hs1 rfl))))⟩
  rw [hs1]
  refine Calls.spliced_cons (thn (hi.run pins s σ H _ I h) fun u0 s1 r => Calls.spliced_nil ?_)
  obtain ⟨_, H1, J, isRef, a, xs, pb, rfl, sq, tab, hR, q⟩ := r
  cases isRef
  obtain ⟨its, rv, at_, _⟩ := J.list sq
  refine call_enumerate_list at_.isList fun h' isEn isIt size keep => wpAny_pyIter_enum isEn ?_
  have la : a < s1.heap.objs.size := at_.lt
  have below : s1.heap.objs.size < h'.objs.size := isIt.elim fun _ x => Heap.lt_size x.1
  obtain ⟨oa, ea, ca, _⟩ := id at_.isList
  have aP : a ≠ P := tab_ne J tab ea (.inl fun z => by rw [ca] at z; cases z)
  have lP : P < s1.heap.objs.size := tab.elim fun _ x => Heap.lt_size (show s1.heap.get? P = _ from J.hok P _ x.1)
  have W := fun (A' : Around) (calm : A'.handled = none) => (WalksT.enumerate (prog := X.prog) (w := X.w) calm (s1.heap.objs.size + 1) s1.heap.objs.size a (Nat.succ_ne_self _) (Nat.ne_of_lt (Nat.lt_succ_of_lt la)) (Nat.ne_of_lt la) its.toArray).toU
  refine ⟨_, _, _, _, _, _, _, fun i y => y = .bool (pb i), pins, σ, H1, s1, rfl, ⟨J, tab, ⟨_, _, rfl⟩, keep, Nat.le_of_lt below, fun b hb => ?_, fun b hb => ?_⟩, W, fun i vals x => ?_, ⟨⟨_, isEn⟩, isIt, at_.isList.at fun o x => keep a o x⟩, ?_, ?_⟩
  · simp only [List.mem_cons, List.not_mem_nil, or_false] at hb
    rcases hb with rfl | rfl | rfl
    · exact ⟨Heap.lt_size isEn, Nat.ne_of_gt (Nat.lt_succ_of_lt lP)⟩
    · exact ⟨below, Nat.ne_of_gt lP⟩
    · exact ⟨Nat.lt_trans la below, aP⟩
  · simp only [List.mem_cons, List.not_mem_nil, or_false] at hb
    rcases hb with rfl | rfl
    · exact Nat.le_succ _
    · exact Nat.le_refl _
  · exact x.elim fun _ x => x.elim fun _ x => ⟨_, _, x.2⟩
  · intro cenv A' E' i va vb u m T at_ ns ma mb
    obtain ⟨t, x, hx, e'⟩ := at_
    obtain ⟨rfl, rfl⟩ : va = .int i t ∧ vb = x := by simpa using congrArg Array.toList e'
    have there : its[i]? = some vb := by simpa using hx
    obtain ⟨v, hv⟩ : ∃ v, xs[i]? = some v := ⟨_, List.getElem?_eq_getElem (rv.length.symm ▸ (List.getElem?_eq_some_iff.mp there).1)⟩
    obtain ⟨w, hw, rw_⟩ := rv.get hv
    cases there.symm.trans hw
    exact hel pins σ H1 s1 xs pb J tab hR cenv A' E' i v _ _ u m T.own T.cells T.glob T.blt T.calm T.deep T.units hv ⟨t, rfl⟩ rw_ ns ma mb T.still
  · rintro g s5 ⟨fp, wr, G, F', St, W, st, _, say, held⟩
    refine call_all_walkS (W.self 0 _ _ _ st ⟨g, fp, wr, G, _, F', St, pb, rfl, W, st, truth_of say, fun s' mv => ?_⟩)
    obtain ⟨H2, grown, J2⟩ := held s' mv
    refine ⟨.bl _, H2, J2, rfl, ?_⟩
    rw [List.size_toArray, ← rv.length]
    exact q H2 grown
end
/-! ### (element for a, b in zip(list, list)), both lists of ints -/
section
variable {X : Cx} {pins : List (Addr × Obj)} {σ : L2.St} {H : Hp} {s : Shared}
theorem gen_zip {c P : Addr} {elt e1 e2 : Expr} {xa xb : Str} {pa pb pt gpos epos ep : Pos} {kt k : Nat} {scope : Scope} {t1 t2 : TE} {C : List Int → List Int → Hp → Prop} {F : List Int → List Int → Nat → Value → Prop} {Q' : Value → Shared → Prop}
    (hr : Room k X.A) (hge : Gl X "zip") (hme : X.mg "zip" = none) (TB : GxR.TabB X.base X.mg c P) (hcode : X.env.code = .ref c) (S : GenS2 X.env.scope scope xa xb) (h1 : PE X e1 t1) (h2 : PE X e2 t2)
    (hs : ∀ v, genFold (.Call (.Name "zip" ep) [e1, e2] [] epos) X.env v = pure v) (hs1 : starEach [e1, e2] X.env = (false, eval e1 X.env) :: starEach [e2] X.env) (hs2 : starEach [e2] X.env = (false, eval e2 X.env) :: starEach [] X.env)
    (hpl : (backTo epos (starEach [e2] X.env)).any (·.1) = false) (hem : starEach [] X.env = []) (I : Inv X pins σ H s)
    (h : t1 σ H fun v H1 => t2 σ H1 fun u H2 => ∃ (a b : Addr) (ns ms : List Int), v = .ref a ∧ u = .ref b ∧ SqL X.K H2 a (ns.map V.int) ∧ SqL X.K H2 b (ms.map V.int) ∧ GxR.TabG H2 P ∧ C ns ms H2)
    (turn : ∀ ns ms H2, C ns ms H2 → ∀ (cenv : Env) (A' : Around) (E' : Value → Shared → Prop) (i : Nat) (u : Shared) (m : Str → Option Value) (li : i < ns.length) (lj : i < ms.length) (t t' : Tok), cenv.scope = scope → u.heap.Ns cenv.locals m → m xa = some (.int ns[i] t) → m xb = some (.int ms[i] t') →
      wpAny (model X.prog X.w) A' (eval elt cenv) (fun y u' => F ns ms i y ∧ Keeps u u') E' u)
    (out : ∀ ns ms H2 g s5, C ns ms H2 → Walked X pins σ H2 P (min ns.length ms.length) (F ns ms) g s5 → Q' (.ref g) s5) :
    wpAny (model X.prog X.w) X.A (eval (.GeneratorExp elt [⟨.Tuple [.Name xa pa, .Name xb pb] kt pt, .Call (.Name "zip" ep) [e1, e2] [] epos, [], 0⟩] scope gpos) X.env) Q' X.xe s := by
  refine gen_pairs hr TB hcode S hs I (Call_ (ld_blt I hge hme PyProof.Rows.boot_zip (PyProof.Rows.callWith_type1 ?_ hs1 hpl)))
  rw [hs1, hs2, hem]
  refine Calls.spliced_cons (thn (h1.run pins s σ H _ I h) fun u0 s0 r0 => ?_)
  obtain ⟨v0, H0, J0, isA, q0⟩ := r0
  refine Calls.spliced_cons (thn (h2.run pins s0 σ H0 _ J0 q0) fun u1 s1 r1 => Calls.spliced_nil ?_)
  obtain ⟨v1, H1, J, isB, a, b, ns, ms, rfl, rfl, sqa, sqb, tab, hC⟩ := r1
  cases isA
  cases isB
  obtain ⟨its, rv, atA, _⟩ := J.list sqa
  obtain ⟨jts, rw_, atB, _⟩ := J.list sqb
  have lenA : ns.length = its.length := List.length_map (f := V.int) ▸ rv.length
  have lenB : ms.length = jts.length := List.length_map (f := V.int) ▸ rw_.length
  obtain ⟨oa, ea, ca, _⟩ := id atA.isList
  obtain ⟨ob, eb, cb, _⟩ := id atB.isList
  have aP : a ≠ P := tab_ne J tab ea (.inl fun z => by rw [ca] at z; cases z)
  have bP : b ≠ P := tab_ne J tab eb (.inl fun z => by rw [cb] at z; cases z)
  have lP : P < s1.heap.objs.size := tab.elim fun _ x => Heap.lt_size (show s1.heap.get? P = _ from J.hok P _ x.1)
  refine call_zip_2 atA.isList atB.isList fun h' isZ isT isO itA itB size keep => wpAny_pyIter_zip isZ ?_
  have up : ∀ j, j < 5 → s1.heap.objs.size + j < h'.objs.size ∧ s1.heap.objs.size + j ≠ P := fun j lj => ⟨size ▸ Nat.add_lt_add_left lj _, Nat.ne_of_gt (Nat.lt_of_lt_of_le lP (Nat.le_add_right _ j))⟩
  have W := fun (A' : Around) (calm : A'.handled = none) => (WalksT.zip2 (prog := X.prog) (w := X.w) calm (s1.heap.objs.size + 4) (s1.heap.objs.size + 2) (s1.heap.objs.size + 3) s1.heap.objs.size (s1.heap.objs.size + 1) a b (PySem.W.ktu_apart s1.heap.objs.size a b atA.lt atB.lt) its.toArray jts.toArray).toU
  have grown : s1.heap.objs.size ≤ h'.objs.size := Nat.le_of_lt (up 0 (by decide)).1
  refine ⟨_, _, _, _, _, _, _, F ns ms, pins, σ, H1, s1, rfl, ⟨J, tab, ⟨_, _, rfl⟩, keep, grown, fun d hd => ?_, fun d hd => ?_⟩, W, fun i vals x => ?_, ⟨isZ, isT, ⟨_, _, isO⟩, itA, itB, atA.isList.at fun o x => keep a o x, atB.isList.at fun o x => keep b o x⟩, ?_, ?_⟩
  · simp only [List.mem_cons, List.not_mem_nil, or_false] at hd
    rcases hd with rfl | rfl | rfl | rfl | rfl | rfl | rfl
    · exact up 4 (by decide)
    · exact up 2 (by decide)
    · exact up 3 (by decide)
    · exact up 0 (by decide)
    · exact up 1 (by decide)
    · exact ⟨Nat.lt_of_lt_of_le atA.lt grown, aP⟩
    · exact ⟨Nat.lt_of_lt_of_le atB.lt grown, bP⟩
  · simp only [List.mem_cons, List.not_mem_nil, or_false] at hd
    rcases hd with rfl | rfl | rfl | rfl
    · exact Nat.le_add_right _ _
    · exact Nat.le_add_right _ _
    · exact Nat.le_refl _
    · exact Nat.le_add_right _ _
  · exact x.elim fun _ x => x.elim fun _ x => ⟨_, _, x.2.2⟩
  · intro cenv A' E' i va vb u m T at_ nsm ma mb
    obtain ⟨x, y, hx, hy, e'⟩ := at_
    obtain ⟨rfl, rfl⟩ : va = x ∧ vb = y := by simpa using congrArg Array.toList e'
    have inA : its[i]? = some va := by simpa using hx
    have inB : jts[i]? = some vb := by simpa using hy
    have li : i < ns.length := lenA ▸ (List.getElem?_eq_some_iff.mp inA).1
    have lj : i < ms.length := lenB ▸ (List.getElem?_eq_some_iff.mp inB).1
    obtain ⟨w, hw, t, rfl⟩ := rv.get (getD_ints li)
    obtain ⟨w', hw', t', rfl⟩ := rw_.get (getD_ints lj)
    cases inA.symm.trans hw
    cases inB.symm.trans hw'
    exact turn ns ms H1 hC cenv A' E' i u m li lj t t' T.own nsm ma mb
  · intro g s5 x
    rw [List.size_toArray, List.size_toArray, ← lenA, ← lenB] at x
    exact out ns ms H1 g s5 hC x
/-- both names of such an expression are read from its frame -/
theorem read_two {sc scope : Scope} {cenv : Env} {A' : Around} {E' : Value → Shared → Prop} {u : Shared} {m : Str → Option Value} {xa xb : Str} {va vb : Value} {p q : Pos} {M : Model} (S : GenS2 sc scope xa xb) (own : cenv.scope = scope) (ns : u.heap.Ns cenv.locals m) (ma : m xa = some va) (mb : m xb = some vb)
    (hda : (xa == ("__debug__" : Str)) = false) (hdb : (xb == ("__debug__" : Str)) = false) :
    (∀ {Q : Value → Shared → Prop}, Q va u → wpAny M A' (eval (.Name xa p) cenv) Q E' u) ∧ ∀ {Q : Value → Shared → Prop}, Q vb u → wpAny M A' (eval (.Name xb q) cenv) Q E' u := by
  subst own
  exact ⟨fun h => wpAny_Name (wpAny_loadName_local S.kind S.la ns ma h) hda, fun h => wpAny_Name (wpAny_loadName_local S.kind S.lb ns mb h) hdb⟩
theorem at_getD {ns : List Int} {i : Nat} (li : i < ns.length) : ns.getD i 0 = ns[i] := by
  rw [List.getD_eq_getElem?_getD, List.getElem?_eq_getElem li]
  rfl
end
/-! ### all(a < b for a, b in zip(list, list)) -/
def tAllZ (K : PySem.W.Frag) (P : Addr) (t1 t2 : TE) : TE := fun σ H Q => t1 σ H fun v H1 => t2 σ H1 fun u H2 => ∃ (a b : Addr) (ns ms : List Int), v = .ref a ∧ u = .ref b ∧ SqL K H2 a (ns.map V.int) ∧ SqL K H2 b (ms.map V.int) ∧ GxR.TabG H2 P ∧
  ∀ H3, GxR.Tabbed P H2 H3 → Q (.bl ((List.range (min ns.length ms.length)).all fun i => decide (ns.getD i 0 < ms.getD i 0))) H3
section
variable {X : Cx}
theorem pe_allZip {c P : Addr} {e1 e2 : Expr} {xa xb : Str} {pa pb' pt p pos gpos epos ep q1 q2 q3 : Pos} {kt : Nat} {scope : Scope} {t1 t2 : TE} {k : Nat}
    (hr : Room k X.A) (hg : Gl X "all") (hm : X.mg "all" = none) (hb : bootBuiltins "all" = some (.builtin "all")) (hge : Gl X "zip") (hme : X.mg "zip" = none) (TB : GxR.TabB X.base X.mg c P) (hcode : X.env.code = .ref c) (S : GenS2 X.env.scope scope xa xb) (h1 : PE X e1 t1) (h2 : PE X e2 t2)
    (hda : (xa == ("__debug__" : Str)) = false) (hdb : (xb == ("__debug__" : Str)) = false)
    (hs : ∀ v, genFold (.Call (.Name "zip" ep) [e1, e2] [] epos) X.env v = pure v := by intro _; rfl)
    (hs1 : starEach [e1, e2] X.env = (false, eval e1 X.env) :: starEach [e2] X.env := by rfl) (hs2 : starEach [e2] X.env = (false, eval e2 X.env) :: starEach [] X.env := by rfl) (hpl : (backTo epos (starEach [e2] X.env)).any (·.1) = false := by rfl)
    (he : starEach [.GeneratorExp (.Compare (.Name xa q1) [.Lt] [.Name xb q2] q3) [⟨.Tuple [.Name xa pa, .Name xb pb'] kt pt, .Call (.Name "zip" ep) [e1, e2] [] epos, [], 0⟩] scope gpos] X.env = (false, eval (.GeneratorExp (.Compare (.Name xa q1) [.Lt] [.Name xb q2] q3) [⟨.Tuple [.Name xa pa, .Name xb pb'] kt pt, .Call (.Name "zip" ep) [e1, e2] [] epos, [], 0⟩] scope gpos) X.env) :: starEach [] X.env := by rfl) :
    PE X (.Call (.Name "all" p) [.GeneratorExp (.Compare (.Name xa q1) [.Lt] [.Name xb q2] q3) [⟨.Tuple [.Name xa pa, .Name xb pb'] kt pt, .Call (.Name "zip" ep) [e1, e2] [] epos, [], 0⟩] scope gpos] [] pos) (tAllZ X.K P t1 t2) := by
  refine ⟨fun pins s σ H Q I h => call_gen hg hm hb he I (gen_zip (C := fun ns ms H2 => ∀ H3, GxR.Tabbed P H2 H3 → Q (.bl ((List.range (min ns.length ms.length)).all fun i => decide (ns.getD i 0 < ms.getD i 0))) H3) (F := fun ns ms i y => y = .bool (decide (ns.getD i 0 < ms.getD i 0)))
    hr hge hme TB hcode S h1 h2 hs hs1 hs2 hpl (by rfl) I h ?_ ?_)⟩
  · intro ns ms H2 _ cenv A' E' i u m li lj t t' own nsm ma mb
    have two := read_two (M := model X.prog X.w) (A' := A') (E' := E') (p := q1) (q := q2) S own nsm ma mb hda hdb
    refine wpAny_Compare1 (two.1 (two.2 (lt_int ⟨?_, GxR.keeps_refl _⟩))) (nomark _)
    rw [at_getD li, at_getD lj]
  · rintro ns ms H2 g s5 q ⟨fp, wr, G, F', St, W, st, _, say, held⟩
    refine call_all_walkS (W.self 0 _ _ _ st ⟨g, fp, wr, G, _, F', St, _, rfl, W, st, truth_of say, fun s' mv => ?_⟩)
    obtain ⟨H3, grown, J⟩ := held s' mv
    exact ⟨.bl _, H3, J, rfl, q H3 grown⟩
end
/-! ### what stays where tables of code may grow -/
def Tb (T : List Addr) (H : Hp) : Prop := ∀ t ∈ T, GxR.TabG H t
structure Ext (T : List Addr) (H H' : Hp) : Prop where
  ext : ∀ b o, H b = some o → (∀ ps, o ≠ .tbl ps) → H' b = some o
  t0 : Tb T H
  t1 : Tb T H'
  free : ∀ b, H' b = none → H b = none
section
variable {T : List Addr} {H H1 H2 : Hp}
theorem Ext.refl (h : Tb T H) : Ext T H H := ⟨fun _ _ e _ => e, h, h, fun _ e => e⟩
theorem Ext.trans (a : Ext T H H1) (b : Ext T H1 H2) : Ext T H H2 := ⟨fun c o e n => b.ext c o (a.ext c o e n) n, a.t0, b.t1, fun c e => a.free c (b.free c e)⟩
theorem Ext.lst (a : Ext T H H1) {p : Addr} {xs : List V} (h : H p = some (.lst xs)) : H1 p = some (.lst xs) := a.ext _ _ h fun _ z => nomatch z
theorem Ext.tup (a : Ext T H H1) {p : Addr} {xs : List V} (h : H p = some (.tup xs)) : H1 p = some (.tup xs) := a.ext _ _ h fun _ z => nomatch z
theorem Ext.same (s : Same H H1) (h : Tb T H) : Ext T H H1 := ⟨fun b o e _ => s b o e, h, fun t ht => by
  obtain ⟨ps, h1, h2⟩ := h t ht
  exact ⟨ps, s _ _ h1, h2⟩, fun b e => s.free e⟩
theorem Ext.new (a : Ext T H H1) {p : Addr} {o : HO} (hp : H p = none) : Ext T H (upd H1 p o) := by
  refine ⟨fun b u e n => ?_, a.t0, fun t ht => ?_, fun b e => ?_⟩
  · rw [upd_ne (ne_of_none e hp)]
    exact a.ext b u e n
  · obtain ⟨ps, h1, h2⟩ := a.t1 t ht
    obtain ⟨qs, h3, _⟩ := a.t0 t ht
    exact ⟨ps, by rw [upd_ne (ne_of_none h3 hp)]; exact h1, h2⟩
  · by_cases z : b = p
    · subst z
      exact hp
    · rw [upd_ne z] at e
      exact a.free b e
theorem Ext.tabbed {t : Addr} (h : Tb T H) (x : GxR.Tabbed t H H1) (ht : t ∈ T) : Ext T H H1 := by
  refine ⟨fun b o e n => ?_, h, fun u hu => ?_, fun b e => ?_⟩
  · obtain ⟨ps, h1, _⟩ := h t ht
    rw [x.2 b (fun z => by rw [z, h1] at e; exact n ps (Option.some.inj e).symm)]
    exact e
  · by_cases z : u = t
    · rw [z]
      exact x.1
    · obtain ⟨ps, h1, h2⟩ := h u hu
      exact ⟨ps, by rw [x.2 u z]; exact h1, h2⟩
  · by_cases z : b = t
    · obtain ⟨ps, h1, _⟩ := x.1
      rw [z, h1] at e
      cases e
    · rw [x.2 b z] at e
      exact e
end
/-! ### shops -/
inductive Ofr where
  | pack (c : List Int) (p : Int)
  | many (c : List Int) (ts : List (Int × Int))
  | add (c : List Int) (p k : Int)
def Ofr.cont : Ofr → List Int
  | .pack c _ => c
  | .many c _ => c
  | .add c _ _ => c
def Ofr.word : Ofr → Str
  | .pack _ _ => "pack"
  | .many _ _ => "many"
  | .add _ _ _ => "add"
def TiersAt (H : Hp) (a : Addr) (ts : List (Int × Int)) : Prop := ∃ us : List Addr, H a = some (.lst (us.map V.ref)) ∧ us.length = ts.length ∧ ∀ (i : Nat) u (t : Int × Int), us[i]? = some u → ts[i]? = some t → H u = some (.tup [.int t.1, .int t.2])
def OfrAt (H : Hp) (a : Addr) : Ofr → Prop
  | .pack c p => ∃ b, H a = some (.tup [.str "pack", .ref b, .int p]) ∧ H b = some (LI c)
  | .many c ts => ∃ b t, H a = some (.tup [.str "many", .ref b, .ref t]) ∧ H b = some (LI c) ∧ TiersAt H t ts
  | .add c p k => ∃ b, H a = some (.tup [.str "add", .ref b, .int p, .int k]) ∧ H b = some (LI c)
def ShopAt (H : Hp) (a : Addr) (os : List Ofr) : Prop := ∃ vs : List Addr, H a = some (.lst (vs.map V.ref)) ∧ vs.length = os.length ∧ ∀ (i : Nat) v o, vs[i]? = some v → os[i]? = some o → OfrAt H v o
section
variable {T : List Addr} {H H1 : Hp} (e : Ext T H H1)
include e
theorem TiersAt.ext {a : Addr} {ts : List (Int × Int)} (h : TiersAt H a ts) : TiersAt H1 a ts := by
  obtain ⟨us, h1, h2, h3⟩ := h
  exact ⟨us, e.lst h1, h2, fun i u t a b => e.tup (h3 i u t a b)⟩
theorem OfrAt.ext {a : Addr} : ∀ {o : Ofr}, OfrAt H a o → OfrAt H1 a o
  | .pack c p, ⟨b, h1, h2⟩ => ⟨b, e.tup h1, e.lst h2⟩
  | .many c ts, ⟨b, t, h1, h2, h3⟩ => ⟨b, t, e.tup h1, e.lst h2, h3.ext e⟩
  | .add c p k, ⟨b, h1, h2⟩ => ⟨b, e.tup h1, e.lst h2⟩
theorem ShopAt.ext {a : Addr} {os : List Ofr} (h : ShopAt H a os) : ShopAt H1 a os := by
  obtain ⟨vs, h1, h2, h3⟩ := h
  exact ⟨vs, e.lst h1, h2, fun i v o a b => (h3 i v o a b).ext e⟩
end
/-- the offer's word and its content, whatever it is -/
theorem OfrAt.head {H : Hp} {a : Addr} : ∀ {o : Ofr}, OfrAt H a o → ∃ b r, H a = some (.tup (.str o.word :: .ref b :: r)) ∧ H b = some (LI o.cont)
  | .pack c p, ⟨b, h1, h2⟩ => ⟨b, _, h1, h2⟩
  | .many c ts, ⟨b, t, h1, h2, h3⟩ => ⟨b, _, h1, h2⟩
  | .add c p k, ⟨b, h1, h2⟩ => ⟨b, _, h1, h2⟩
theorem ShopAt.get {H : Hp} {a : Addr} {os : List Ofr} {vs : List Addr} (h : vs.length = os.length) {i : Nat} (hi : i < os.length) : ∃ v o, vs[i]? = some v ∧ os[i]? = some o ∧ (vs.map V.ref)[i]? = some (.ref v) := by
  refine ⟨vs[i]'(by omega), os[i], List.getElem?_eq_getElem (by omega), List.getElem?_eq_getElem hi, ?_⟩
  rw [List.getElem?_map, List.getElem?_eq_getElem (by omega)]
  rfl
structure GoodT (ts : List (Int × Int)) : Prop where
  pos : 1 ≤ ts.length
  few : ts.length ≤ 4
  one : ∀ t, ts[0]? = some t → t.1 = 1
  most : ∀ t ∈ ts, t.1 ≤ 12
  rise : ∀ (i : Nat) a b, ts[i]? = some a → ts[i + 1]? = some b → a.1 < b.1
def GoodO (os : List Ofr) (i : Nat) : Ofr → Prop
  | .pack _ _ => True
  | .many _ ts => GoodT ts
  | .add _ _ k => ∃ j : Nat, k = (j : Int) ∧ j < i ∧ ∃ c p, os[j]? = some (.pack c p)
def Good (os : List Ofr) : Prop := os.length ≤ 8 ∧ ∀ (i : Nat) o, os[i]? = some o → GoodO os i o
/-- F.ok with the code object told -/
theorem okc {P : Program} {w : World} {K : PySem.W.Frag} {mg : Str → Option Value} {base : Heap} {x qual : Str} {st : Stmt} {f c : Addr} {fd : FuncData} {N ps : List Str} {k : Nat} {sp : Sp} (F : Fun K x qual st f fd) (hc : fd.code = .ref c) (S : FnScope N ps (defScope st)) (len : ∀ vs H Q E, sp vs H Q E → vs.length = ps.length)
    (hbody : ∀ (cdv : Value) (A : Around) (outer : List Env) (s : Shared) (H : Hp) (vs : List V) (Q : VK) (E : XK), cdv = .ref c → Room k (A.deeper (envOfC qual (defScope st) s.heap.objs.size f cdv)) → sp vs H Q E →
      ∃ t, PSs (cxOf CX0 P w K mg base N qual (defScope st) f cdv A outer s H E).nox (defBody st) t ∧ t { nx := fun _ H' => Q .non H', rt := Q } (start N vs) H) : FnOk P w K mg base CX0 (k + 1) f fd ps sp := by
  obtain ⟨oc, od, kV, doc, pm, an, cdv, ct, osl, rfl, lk, hcd⟩ := F.ex
  refine fn_of lk hcd S len fun A outer s H vs Q E hr hsp => ?_
  obtain ⟨t, h, q⟩ := hbody cdv A outer s H vs Q E hc hr hsp
  exact ⟨t, h.nox, q⟩
/-- a list without its first -/
theorem cut1 (l : List V) : cutV l (some 1) none = l.drop 1 := by
  have a : HT.sIx l.length 0 (some ((1 : Nat) : Int)) = min 1 l.length := HT.sIx_nat _ _ _
  show (l.drop (HT.sIx l.length 0 (some ((1 : Nat) : Int)))).take (l.length - HT.sIx l.length 0 (some ((1 : Nat) : Int))) = l.drop 1
  rw [a]
  rcases Nat.eq_zero_or_pos l.length with z | z
  · rw [List.eq_nil_of_length_eq_zero z]
    rfl
  · rw [Nat.min_eq_left z]
    exact List.take_of_length_le (by rw [List.length_drop]; exact Nat.le_refl _)
/-! ### names_pack, good_tiers, can_stand, look -/
abbrev s_names_pack : Stmt := topS 6
abbrev N_names_pack : List Str := ["shop", "at", "place"]
theorem sc_names_pack : FnScope N_names_pack ["shop", "at"] (defScope s_names_pack) := ⟨rfl, rfl, rfl, by decide +kernel, rfl, by decide +kernel, by decide +kernel⟩

abbrev s_good_tiers : Stmt := topS 7
abbrev N_good_tiers : List Str := ["tiers", "begins", "begin", "price", "low", "high"]
theorem sc_good_tiers : FnScope N_good_tiers ["tiers"] (defScope s_good_tiers) := ⟨rfl, rfl, rfl, by decide +kernel, rfl, by decide +kernel, by decide +kernel⟩

abbrev s_can_stand : Stmt := topS 8
abbrev N_can_stand : List Str := ["shop", "at", "kind"]
theorem sc_can_stand : FnScope N_can_stand ["shop", "at"] (defScope s_can_stand) := ⟨rfl, rfl, rfl, by decide +kernel, rfl, by decide +kernel, by decide +kernel⟩

abbrev s_look : Stmt := topS 9
abbrev N_look : List Str := ["shop", "at"]
theorem sc_look : FnScope N_look ["shop"] (defScope s_look) := ⟨rfl, rfl, rfl, by decide +kernel, rfl, by decide +kernel, by decide +kernel⟩

def sp_names_pack : Sp := fun vs H Q _ => ∃ (a : Addr) (os : List Ofr) (i j : Nat) (c c' : List Int) (p p' : Int), vs = [.ref a, .int i] ∧ ShopAt H a os ∧ os[i]? = some (.add c p j) ∧ j < i ∧ os[j]? = some (.pack c' p') ∧ Q (.bl true) H
def sp_good_tiers (T : List Addr) : Sp := fun vs H Q _ => ∃ (a : Addr) (ts : List (Int × Int)), vs = [.ref a] ∧ TiersAt H a ts ∧ GoodT ts ∧ Tb T H ∧ ∀ H', Ext T H H' → Q (.bl true) H'
def sp_can_stand (T : List Addr) : Sp := fun vs H Q _ => ∃ (a : Addr) (os : List Ofr) (i : Nat), vs = [.ref a, .int i] ∧ ShopAt H a os ∧ Good os ∧ i < os.length ∧ Tb T H ∧ ∀ H', Ext T H H' → Q (.bl true) H'
def sp_look (T : List Addr) : Sp := fun vs H Q _ => ∃ (a : Addr) (os : List Ofr), vs = [.ref a] ∧ ShopAt H a os ∧ Good os ∧ Tb T H ∧ ∀ H', Ext T H H' → Q .non H'
section
variable {P : Program} {w : World} {K : PySem.W.Frag} {mg : Str → Option Value} {base : Heap} {T : List Addr}
theorem ok_names_pack {f : Addr} {fd : FuncData} {k : Nat} (D : Def K mg "names_pack" s_names_pack ["shop", "at"] f fd) : FnOk P w K mg base CX0 (k + 1) f fd ["shop", "at"] sp_names_pack := by
  refine D.F.ok sc_names_pack (fun vs H Q E h => ?_) (fun cdv A outer s H vs Q E hr h => ?_)
  · obtain ⟨a, os, i, j, c, c', p, p', rfl, _⟩ := h
    rfl
  · obtain ⟨a, os, i, j, c, c', p, p', rfl, ⟨vs, h1, h2, h3⟩, hi, hj, hp, q⟩ := h
    have li : i < os.length := (List.getElem?_eq_some_iff.mp hi).1
    obtain ⟨v, o, g1, g2, g3⟩ := ShopAt.get (H := H) (a := a) h2 li
    cases Option.some.inj (g2.symm.trans hi)
    obtain ⟨b, hb, _⟩ := h3 i v _ g1 g2
    obtain ⟨v', o', g4, g5, g6⟩ := ShopAt.get (H := H) (a := a) h2 (show j < os.length by omega)
    cases Option.some.inj (g5.symm.trans hp)
    obtain ⟨b', hb', _⟩ := h3 j v' _ g4 g5
    refine ⟨_, (pss_cons (ps_set (i := 2) sc_names_pack.nd rfl (Or.inl rfl) (pe_ix ix_tup (pe_ix ix_list (pv 0) (pv 1) (fun _ _ => rfl)) pe_int (fun _ _ => rfl)))
  (pss_one (ps_ret (pe_and (pe_chain op_le op_lt pe_int (pv 2) (pv 1)) (pe_one (pe_cmpR op_eq (pe_ix ix_tup (pe_ix ix_list (pv 0) (pv 2) (fun _ _ => rfl)) pe_int (fun _ _ => rfl)) pe_str (nomark _))))))), ?_⟩
    refine ⟨_, rfl, _, rfl, a, _, _, _, rfl, rfl, SqL.of h1, atI_nat g3, v, _, _, _, rfl, rfl, SqT.of hb, atI_nat (j := 3) rfl, ?_⟩
    refine ⟨_, rfl, _, _, rfl, rfl, true, (by show V.bl _ = V.bl _; rw [decide_eq_true (by omega)]), _, rfl, _, _, rfl, rfl, true, (by show V.bl _ = V.bl _; rw [decide_eq_true (by omega)]), ?_⟩
    refine ⟨_, rfl, _, rfl, a, _, _, _, rfl, rfl, SqL.of h1, atI_nat g6, v', _, _, _, rfl, rfl, SqT.of hb', atI_nat (j := 0) rfl, rfl, q⟩
theorem ok_good_tiers {f c t : Addr} {fd : FuncData} {k : Nat} (M : Names mg) (D : Def K mg "good_tiers" s_good_tiers ["tiers"] f fd) (hc : fd.code = .ref c) (TB : GxR.TabB base mg c t) (ht : t ∈ T) : FnOk P w K mg base CX0 (k + 1) f fd ["tiers"] (sp_good_tiers T) := by
  obtain ⟨t4, m_MOST_TIERS⟩ := M.c_MOST_TIERS
  obtain ⟨t12, m_MOST_PIECES⟩ := M.c_MOST_PIECES
  refine okc D.F hc sc_good_tiers (fun vs H Q E h => ?_) (fun cdv A outer s H vs Q E ec hr h => ?_)
  · obtain ⟨a, ts, rfl, _⟩ := h
    rfl
  · obtain ⟨a, ts, rfl, ⟨us, h1, h2, h3⟩, gd, hT, q⟩ := h
    refine ⟨_, (pss_cons (ps_setLc (i := 1) (own := [("begin", 2), ("price", 3)]) (by rfl) sc_good_tiers.nd rfl rfl (sw_true rfl rfl rfl (by decide +kernel)) (pi_list (pv 0)) (blkOk_by (own := [("begin", 2), ("price", 3)]) (N := N_good_tiers) (sc := defScope s_good_tiers) (by decide +kernel)) (fun _ _ _ _ _ => (pg_tupK (K := K) (n := 2) rfl rfl (pgs_cons (pg_name (i := 2) sc_good_tiers.nd rfl (Or.inl rfl)) (pgs_cons (pg_name (i := 3) sc_good_tiers.nd rfl (Or.inl rfl)) pgs_nil)))) (fun _ _ _ _ _ => pts_nil) (fun _ _ _ _ _ => (pv 2)))
  (pss_cons (ps_if (pt_not (pt_chain op_le op_le pe_int (pe_callB call_len_seq (by rfl) M.len (by decide +kernel) (pa_cons (pv 1) pa_nil)) (pe_glob (v := .int 4) (by rfl) m_MOST_TIERS ⟨_, rfl⟩)))
   (pss_one (ps_ret pe_bl))
   pss_nil)
  (pss_cons (ps_if (PW.pt (pw_or (pt_cmpR op_ne (pe_ix ix_list (pv 1) pe_int (fun _ _ => rfl)) pe_int (nomark _)) (pw_or1 (pt_cmpR op_gt (pe_ix ix_list (pv 1) (pe_un un_neg pe_int) (fun _ _ => rfl)) (pe_glob (v := .int 12) (by rfl) m_MOST_PIECES ⟨_, rfl⟩) (nomark _)))))
   (pss_one (ps_ret pe_bl))
   pss_nil)
  (pss_one (ps_ret (pe_allZip hr (by rfl) M.all (by decide +kernel) (by rfl) M.zip TB ec ⟨rfl, rfl, by decide +kernel, rfl, rfl, rfl, by decide, (by show ∀ y : Str × NameKind, y ∈ _ → y.2 = .free → (defScope s_good_tiers).names.lookup y.1 = some .cell; decide +kernel)⟩ (pv 1) (pe_slice sl_list (pv 1) (po_some pe_int) po_none) (by decide) (by decide))))))), ?_⟩
    have pos := gd.pos
    have few := gd.few
    refine ⟨_, rfl, a, rfl, ⟨_, SqL.of h1⟩, fun B nB => lc_list (xs := us.map V.ref) (fun i H' => Same H H' ∧ H' B = some (LI ((ts.take i).map (·.1)))) ⟨same_upd nB, upd_same⟩ (fun i H' _ hp => SqL.of (hp.1 _ _ h1)) (fun i x H1 hx hp => ?_) (fun H1 hp => ?_)⟩
    · obtain ⟨s1, hB⟩ := hp
      rw [List.getElem?_map] at hx
      cases hu : us[i]? with
      | none => rw [hu] at hx; cases hx
      | some u =>
        rw [hu] at hx
        cases Option.some.inj hx
        have hi : i < ts.length := by
          have := (List.getElem?_eq_some_iff.mp hu).1
          omega
        have gt := List.getElem?_eq_getElem hi
        refine ⟨u, _, rfl, SqT.of (s1 _ _ (h3 i u _ hu gt)), rfl, _, _, rfl, _, _, rfl, rfl, rfl, _, rfl, _, hB, szL' (by rw [List.length_map, List.length_map, List.length_take]; omega), sm_new s1 nB, ?_⟩
        rw [take_succ_at gt, List.map_append]
        exact at_app
    · obtain ⟨s1, hB⟩ := hp
      rw [List.length_map, h2, List.take_length] at hB
      generalize hbs : ts.map (·.1) = bs at hB
      have lbs : bs.length = ts.length := by rw [← hbs, List.length_map]
      have gbs : ∀ (i : Nat) t, ts[i]? = some t → bs[i]? = some t.1 := fun i t h => by rw [← hbs, List.getElem?_map, h]; rfl
      have gbs0 : ∀ i, i < bs.length → ∃ t, ts[i]? = some t ∧ bs[i]? = some t.1 := fun i hi => ⟨ts[i]'(by omega), List.getElem?_eq_getElem (by omega), gbs _ _ (List.getElem?_eq_getElem (by omega))⟩
      have hE : Ext T H H1 := .same s1 hT
      -- not 1 <= len(begins) <= MOST_TIERS
      refine ⟨_, rfl, B, _, rfl, .inl (SqL.of hB), _, _, rfl, rfl, true, (by show V.bl _ = V.bl _; rw [decide_eq_true (by rw [List.length_map]; omega)]), _, _, rfl, rfl, true, (by show V.bl _ = V.bl _; rw [decide_eq_true (by rw [List.length_map]; omega)]), ?_⟩
      -- begins[0] != 1 or begins[-1] > MOST_PIECES
      obtain ⟨x0, k1, k2⟩ := gbs0 0 (by omega)
      have e1 : x0.1 = 1 := gd.one _ k1
      refine ⟨_, rfl, B, _, _, _, rfl, rfl, SqL.of hB, atI_nat (j := 0) (get_ints k2), rfl, _, rfl, iteNS (by rw [e1]) ?_⟩
      obtain ⟨x1, k3, k4⟩ := gbs0 (bs.length - 1) (by omega)
      have hneg : atI (bs.map V.int) (-1) = some (.int x1.1) := by
        have e : bs.map V.int = (bs.map V.int).take (bs.length - 1) ++ [.int x1.1] := by
          rw [← take_succ_at (get_ints k4), show bs.length - 1 + 1 = bs.length by omega]
          exact (List.take_of_length_le (by rw [List.length_map]; exact Nat.le_refl _)).symm
        rw [e]
        exact atI_last _ _
      have hm := gd.most x1 (List.mem_of_getElem? k3)
      refine ⟨_, rfl, 1, rfl, B, _, -1, _, rfl, rfl, SqL.of hB, hneg, _, _, rfl, rfl, _, rfl, ?_⟩
      rw [decide_eq_false (by omega)]
      -- all(..)
      refine ⟨_, rfl, _, rfl, 1, rfl, B, _, rfl, SqL.of hB, fun z nz => ⟨B, z, bs, bs.drop 1, rfl, rfl, SqL.of ((same_upd nz) _ _ hB), SqL.of (by rw [upd_same]; congr 2; rw [List.map_drop]; exact cut1 _), (hE.new (s1.free nz)).t1 t ht, fun H3 t3 => ?_⟩⟩
      have all1 : ((List.range (min bs.length (bs.drop 1).length)).all fun i => decide (bs.getD i 0 < (bs.drop 1).getD i 0)) = true := by
        rw [List.all_eq_true]
        intro i hi
        have hi2 := List.mem_range.mp hi
        rw [List.length_drop] at hi2
        obtain ⟨y0, z1, z2⟩ := gbs0 i (by omega)
        obtain ⟨y1, z3, z4⟩ := gbs0 (i + 1) (by omega)
        have := gd.rise i y0 y1 z1 z3
        refine decide_eq_true ?_
        rw [List.getD_eq_getElem?_getD, z2, List.getD_eq_getElem?_getD, List.getElem?_drop, Nat.add_comm 1 i, z4]
        exact this
      rw [all1]
      exact q H3 ((hE.new (s1.free nz)).trans (.tabbed (hE.new (s1.free nz)).t1 t3 ht))
theorem ok_can_stand {f f1 f2 c t : Addr} {fd fd1 fd2 : FuncData} {k : Nat} (M : Names mg) (D : Def K mg "can_stand" s_can_stand ["shop", "at"] f fd) (D_names_pack : Def K mg "names_pack" s_names_pack ["shop", "at"] f1 fd1) (D_good_tiers : Def K mg "good_tiers" s_good_tiers ["tiers"] f2 fd2)
    (hc : fd2.code = .ref c) (TB : GxR.TabB base mg c t) (ht : t ∈ T) : FnOk P w K mg base CX0 (k + 2) f fd ["shop", "at"] (sp_can_stand T) := by
  have G_names_pack : FnOk P w K mg base CX0 (k + 1) f1 fd1 ["shop", "at"] sp_names_pack := ok_names_pack D_names_pack
  have G_good_tiers : FnOk P w K mg base CX0 (k + 1) f2 fd2 ["tiers"] (sp_good_tiers T) := ok_good_tiers M D_good_tiers hc TB ht
  refine D.F.ok sc_can_stand (fun vs H Q E h => ?_) (fun cdv A outer s H vs Q E hr h => ?_)
  · obtain ⟨a, os, i, rfl, _⟩ := h
    rfl
  · obtain ⟨a, os, i, rfl, ⟨vs, h1, h2, h3⟩, gd, hi, hT, q⟩ := h
    obtain ⟨v, o, g1, g2, g3⟩ := ShopAt.get (H := H) (a := a) h2 hi
    have ho := h3 i v o g1 g2
    have hg := gd.2 i o g2
    refine ⟨_, (pss_cons (ps_set (i := 2) sc_can_stand.nd rfl (Or.inl rfl) (pe_ix ix_tup (pe_ix ix_list (pv 0) (pv 1) (fun _ _ => rfl)) pe_int (fun _ _ => rfl)))
  (pss_cons (ps_if (pt_cmpR op_eq (pv 2) pe_str (nomark _))
   (pss_one (ps_ret (pe_call G_names_pack hr (by rfl) D_names_pack.g D_names_pack.F.kp D_names_pack.b .nil pass0 (pa_cons (pv 0) (pa_cons (pv 1) pa_nil)))))
   pss_nil)
  (pss_cons (ps_if (pt_cmpR op_eq (pv 2) pe_str (nomark _))
   (pss_one (ps_ret (pe_call G_good_tiers hr (by rfl) D_good_tiers.g D_good_tiers.F.kp D_good_tiers.b .nil pass0 (pa_cons (pe_ix ix_tup (pe_ix ix_list (pv 0) (pv 1) (fun _ _ => rfl)) pe_int (fun _ _ => rfl)) pa_nil))))
   pss_nil)
  (pss_one (ps_ret pe_bl))))), ?_⟩
    cases o with
    | pack c p =>
      obtain ⟨b, hb, _⟩ := ho
      refine ⟨_, rfl, _, rfl, a, _, _, _, rfl, rfl, SqL.of h1, atI_nat g3, v, _, _, _, rfl, rfl, SqT.of hb, atI_nat (j := 0) rfl, ?_⟩
      refine ⟨_, rfl, rfl, false, rfl, ?_⟩
      refine ⟨_, rfl, rfl, false, rfl, ?_⟩
      exact q H (.refl hT)
    | many c ts =>
      obtain ⟨b, t', hb, _, hts⟩ := ho
      refine ⟨_, rfl, _, rfl, a, _, _, _, rfl, rfl, SqL.of h1, atI_nat g3, v, _, _, _, rfl, rfl, SqT.of hb, atI_nat (j := 0) rfl, ?_⟩
      refine ⟨_, rfl, rfl, false, rfl, ?_⟩
      refine ⟨_, rfl, rfl, true, rfl, ?_⟩
      exact ⟨_, rfl, _, rfl, a, _, _, _, rfl, rfl, SqL.of h1, atI_nat g3, v, _, _, _, rfl, rfl, SqT.of hb, atI_nat (j := 2) rfl, t', ts, rfl, hts, hg, hT, q⟩
    | add c p kk =>
      obtain ⟨b, hb, _⟩ := ho
      obtain ⟨j, rfl, hj, c', p', hp⟩ := hg
      refine ⟨_, rfl, _, rfl, a, _, _, _, rfl, rfl, SqL.of h1, atI_nat g3, v, _, _, _, rfl, rfl, SqT.of hb, atI_nat (j := 0) rfl, ?_⟩
      refine ⟨_, rfl, rfl, true, rfl, ?_⟩
      exact ⟨_, rfl, _, rfl, a, os, i, j, c, c', p, p', rfl, ⟨vs, h1, h2, h3⟩, g2, hj, hp, q H (.refl hT)⟩
theorem ok_look {f f0 f1 f2 c t : Addr} {fd fd0 fd1 fd2 : FuncData} {k : Nat} (M : Names mg) (D : Def K mg "look" s_look ["shop"] f fd) (D_can_stand : Def K mg "can_stand" s_can_stand ["shop", "at"] f0 fd0) (D_names_pack : Def K mg "names_pack" s_names_pack ["shop", "at"] f1 fd1) (D_good_tiers : Def K mg "good_tiers" s_good_tiers ["tiers"] f2 fd2)
    (hc : fd2.code = .ref c) (TB : GxR.TabB base mg c t) (ht : t ∈ T) : FnOk P w K mg base CX0 (k + 3) f fd ["shop"] (sp_look T) := by
  have G_can_stand : FnOk P w K mg base CX0 (k + 2) f0 fd0 ["shop", "at"] (sp_can_stand T) := ok_can_stand M D_can_stand D_names_pack D_good_tiers hc TB ht
  refine D.F.ok sc_look (fun vs H Q E h => ?_) (fun cdv A outer s H vs Q E hr h => ?_)
  · obtain ⟨a, os, rfl, _⟩ := h
    rfl
  · obtain ⟨a, os, rfl, hS, gd, hT, q⟩ := h
    obtain ⟨vs, h1, h2, h3⟩ := id hS
    have l100 := gd.1
    refine ⟨_, (pss_one (ps_for PassesOwn.never rfl (pi_range1 (by rfl) M.range (pa_cons (pe_callB call_len_seq (by rfl) M.len (by decide +kernel) (pa_cons (pv 0) pa_nil)) pa_nil)) (pg_name (i := 1) sc_look.nd rfl (Or.inl rfl))
   (pss_one (ps_if (pt_not (pt_val (pe_call G_can_stand hr (by rfl) D_can_stand.g D_can_stand.F.kp D_can_stand.b .nil pass0 (pa_cons (pv 0) (pa_cons (pv 1) pa_nil)))))
   (pss_one ps_never)
   pss_nil)))), ?_⟩
    refine ⟨_, rfl, a, _, rfl, .inl (SqL.of h1), _, rfl, by omega, by rw [List.length_map]; omega, for_range (n := (((vs.map V.ref).length : Nat) : Int).toNat) (fun i σ H' => ∃ y1, σ = [some (.ref a), y1] ∧ Ext T H H') ⟨none, rfl, .refl hT⟩ (fun i σ H1 hi hp => ?_) (fun σ H1 hp => ?_)⟩
    · obtain ⟨y1, rfl, e1⟩ := hp
      rw [Int.toNat_natCast, List.length_map] at hi
      refine ⟨_, rfl, _, rfl, a, os, i, by show [V.ref a, V.int (0 + (i : Int))] = _; rw [Int.zero_add], hS.ext e1, gd, by omega, e1.t1, fun H2 e2 => ⟨true, rfl, ?_⟩⟩
      exact ⟨_, rfl, e1.trans e2⟩
    · obtain ⟨y1, rfl, e1⟩ := hp
      exact q H1 e1
end
/-! ### lines, as lists -/
/-- place by place -/
def Al {α : Type} (R : Addr → α → Prop) : List Addr → List α → Prop
  | [], [] => True
  | a :: as, x :: xs => R a x ∧ Al R as xs
  | _, _ => False
section
variable {α : Type} {R R' : Addr → α → Prop}
theorem Al.len : ∀ {as : List Addr} {xs : List α}, Al R as xs → as.length = xs.length
  | [], [], _ => rfl
  | [], _ :: _, h => h.elim
  | _ :: _, [], h => h.elim
  | _ :: _, _ :: _, h => by rw [List.length_cons, List.length_cons, Al.len h.2]
theorem Al.app : ∀ {as bs : List Addr} {xs ys : List α}, Al R as xs → Al R bs ys → Al R (as ++ bs) (xs ++ ys)
  | [], _, [], _, _, k => k
  | [], _, _ :: _, _, h, _ => h.elim
  | _ :: _, _, [], _, h, _ => h.elim
  | _ :: _, _, _ :: _, _, h, k => ⟨h.1, Al.app h.2 k⟩
theorem Al.imp (f : ∀ a x, R a x → R' a x) : ∀ {as : List Addr} {xs : List α}, Al R as xs → Al R' as xs
  | [], [], _ => True.intro
  | [], _ :: _, h => h.elim
  | _ :: _, [], h => h.elim
  | _ :: _, _ :: _, h => ⟨f _ _ h.1, Al.imp f h.2⟩
theorem Al.impM : ∀ {as : List Addr} {xs : List α}, (∀ a x, a ∈ as → R a x → R' a x) → Al R as xs → Al R' as xs
  | [], [], _, _ => True.intro
  | [], _ :: _, _, h => h.elim
  | _ :: _, [], _, h => h.elim
  | _ :: _, _ :: _, f, h => ⟨f _ _ List.mem_cons_self h.1, Al.impM (fun a x m => f a x (List.mem_cons_of_mem _ m)) h.2⟩
theorem Al.get : ∀ {as : List Addr} {xs : List α} {i : Nat} {a : Addr}, Al R as xs → as[i]? = some a → ∃ x, xs[i]? = some x ∧ R a x
  | [], [], _, _, _, e => by simp at e
  | [], _ :: _, _, _, h, _ => h.elim
  | _ :: _, [], _, _, h, _ => h.elim
  | _ :: _, x :: _, 0, _, h, e => by cases Option.some.inj e; exact ⟨x, rfl, h.1⟩
  | _ :: _, _ :: _, i + 1, _, h, e => Al.get (i := i) h.2 e
theorem Al.drop1 : ∀ {as : List Addr} {xs : List α}, Al R as xs → Al R (as.drop 1) xs.tail
  | [], [], _ => True.intro
  | [], _ :: _, h => h.elim
  | _ :: _, [], h => h.elim
  | _ :: _, _ :: _, h => h.2
theorem Al.one {a : Addr} {x : α} (h : R a x) : Al R [a] [x] := ⟨h, True.intro⟩
end
/-- a new list of ints, apart from C -/
def RowB (H0 H : Hp) (C : Addr) (a : Addr) (r : List Int) : Prop := H a = some (LI r) ∧ H0 a = none ∧ a ≠ C
def RowF (H0 H : Hp) (a : Addr) (r : List Int) : Prop := H a = some (LI r) ∧ H0 a = none
theorem RowB.keep {H0 H H' : Hp} {C a : Addr} {r : List Int} (s : SameBut C H H') (h : RowB H0 H C a r) : RowB H0 H' C a r := ⟨s _ _ h.2.2 h.1, h.2⟩
theorem RowF.keep {H0 H H' : Hp} {a : Addr} {r : List Int} (s : Same H H') (h : RowF H0 H a r) : RowF H0 H' a r := ⟨s _ _ h.1, h.2⟩
theorem RowB.toF {H0 H : Hp} {C a : Addr} {r : List Int} (h : RowB H0 H C a r) : RowF H0 H a r := ⟨h.1, h.2.1⟩
structure Ln where
  p : Int
  c : Int
  as : List Int
/-- a line, its tuple and its list new -/
def LineF (H0 H : Hp) (a : Addr) (l : Ln) : Prop := ∃ b, H a = some (.tup [.int l.p, .int l.c, .ref b]) ∧ H b = some (LI l.as) ∧ H0 a = none ∧ H0 b = none
def LineB (H0 H : Hp) (B : Addr) (a : Addr) (l : Ln) : Prop := ∃ b, H a = some (.tup [.int l.p, .int l.c, .ref b]) ∧ H b = some (LI l.as) ∧ H0 a = none ∧ H0 b = none ∧ a ≠ B ∧ b ≠ B
theorem LineB.keep {H0 H H' : Hp} {B a : Addr} {l : Ln} (s : SameBut B H H') (h : LineB H0 H B a l) : LineB H0 H' B a l := by
  obtain ⟨b, h1, h2, h3, h4, h5, h6⟩ := h
  exact ⟨b, s _ _ h5 h1, s _ _ h6 h2, h3, h4, h5, h6⟩
theorem LineB.toF {H0 H : Hp} {B a : Addr} {l : Ln} (h : LineB H0 H B a l) : LineF H0 H a l := by
  obtain ⟨b, h1, h2, h3, h4, _⟩ := h
  exact ⟨b, h1, h2, h3, h4⟩
theorem LineF.toB {H0 H1 H : Hp} {B a : Addr} {l : Ln} (h : LineF H1 H a l) (f : ∀ b, H1 b = none → H0 b = none) (hB : H1 B ≠ none) : LineB H0 H B a l := by
  obtain ⟨b, h1, h2, h3, h4⟩ := h
  exact ⟨b, h1, h2, f _ h3, f _ h4, fun z => hB (by rw [← z]; exact h3), fun z => hB (by rw [← z]; exact h4)⟩
def LinesF (H0 H : Hp) (q : Addr) (ls : List Ln) : Prop := ∃ as : List Addr, H q = some (.lst (as.map V.ref)) ∧ Al (LineF H0 H) as ls
def isAdd (os : List Ofr) (p : Int) (i : Nat) : Bool := match os[i]? with
  | some (.add _ _ k) => decide (k = p)
  | _ => false
def addsN (os : List Ofr) (p : Int) (n : Nat) : List Int := ((List.range n).filter (isAdd os p)).map fun (i : Nat) => (i : Int)
def addsM (os : List Ofr) (p : Int) : List Int := addsN os p os.length
theorem addsN_len (os : List Ofr) (p : Int) (n : Nat) : (addsN os p n).length ≤ n := by
  unfold addsN
  rw [List.length_map]
  exact Nat.le_trans (List.length_filter_le _ _) (by rw [List.length_range]; exact Nat.le_refl _)
theorem addsN_yes {os : List Ofr} {p : Int} {n : Nat} (h : isAdd os p n = true) : addsN os p (n + 1) = addsN os p n ++ [(n : Int)] := by
  unfold addsN
  rw [List.range_succ, List.filter_append, List.map_append]
  simp [h]
theorem addsN_no {os : List Ofr} {p : Int} {n : Nat} (h : isAdd os p n = false) : addsN os p (n + 1) = addsN os p n := by
  unfold addsN
  rw [List.range_succ, List.filter_append, List.map_append]
  simp [h]
def choicesM : List Int → List (List Int)
  | [] => [[]]
  | p :: ps => ([[]] ++ (choicesM ps).map (p :: ·)) ++ (choicesM ps).tail
theorem choicesM_len : ∀ ps : List Int, (choicesM ps).length = 2 ^ ps.length
  | [] => rfl
  | p :: ps => by
    have ih := choicesM_len ps
    have pos : 0 < 2 ^ ps.length := Nat.pow_pos (by decide)
    show (([[]] ++ (choicesM ps).map (p :: ·)) ++ (choicesM ps).tail).length = 2 ^ (ps.length + 1)
    rw [List.length_append, List.length_append, List.length_map, List.length_tail, ih, Nat.pow_succ]
    show 1 + 2 ^ ps.length + (2 ^ ps.length - 1) = _
    omega
theorem choicesM_le {ps : List Int} (h : ps.length ≤ 8) : (choicesM ps).length ≤ 256 := by
  rw [choicesM_len]
  exact Nat.le_trans (Nat.pow_le_pow_right (by decide) h) (by decide)
def linesAtM (os : List Ofr) (p : Nat) : List Ln := match os[p]? with
  | some (.pack _ _) => (choicesM (addsM os p)).map fun c => ⟨p, 1, c⟩
  | some (.many _ _) => (List.range 12).map fun i => ⟨p, 1 + (i : Nat), []⟩
  | _ => []
def linesM (os : List Ofr) : List Ln := (List.range os.length).flatMap (linesAtM os)
theorem linesAtM_len {os : List Ofr} (h : os.length ≤ 8) (p : Nat) : (linesAtM os p).length ≤ 256 := by
  unfold linesAtM
  split
  · rw [List.length_map]
    exact choicesM_le (Nat.le_trans (addsN_len _ _ _) h)
  · rw [List.length_map, List.length_range]
    decide
  · decide
theorem linesN_len {os : List Ofr} (h : os.length ≤ 8) : ∀ n : Nat, ((List.range n).flatMap (linesAtM os)).length ≤ n * 256
  | 0 => by simp
  | n + 1 => by
    have ih := linesN_len h n
    have := linesAtM_len h n
    rw [List.range_succ, List.flatMap_append, List.length_append, List.flatMap_singleton]
    omega
theorem OfrAt.same {H H' : Hp} (s : Same H H') {a : Addr} : ∀ {o : Ofr}, OfrAt H a o → OfrAt H' a o
  | .pack c p, ⟨b, h1, h2⟩ => ⟨b, s _ _ h1, s _ _ h2⟩
  | .many c ts, ⟨b, t, h1, h2, us, h3, h4, h5⟩ => ⟨b, t, s _ _ h1, s _ _ h2, us, s _ _ h3, h4, fun i u t a b => s _ _ (h5 i u t a b)⟩
  | .add c p k, ⟨b, h1, h2⟩ => ⟨b, s _ _ h1, s _ _ h2⟩
theorem ShopAt.same {H H' : Hp} (s : Same H H') {a : Addr} {os : List Ofr} (h : ShopAt H a os) : ShopAt H' a os := by
  obtain ⟨vs, h1, h2, h3⟩ := h
  exact ⟨vs, s _ _ h1, h2, fun i v o a b => (h3 i v o a b).same s⟩
/-! ### adds_to, choices -/
abbrev s_adds_to : Stmt := topS 10
abbrev N_adds_to : List Str := ["shop", "place", "at", "offer"]
theorem sc_adds_to : FnScope N_adds_to ["shop", "place"] (defScope s_adds_to) := ⟨rfl, rfl, rfl, by decide +kernel, rfl, by decide +kernel, by decide +kernel⟩

abbrev s_choices : Stmt := topS 11
abbrev N_choices : List Str := ["places", "told", "place", "chosen"]
theorem sc_choices : FnScope N_choices ["places"] (defScope s_choices) := ⟨rfl, rfl, rfl, by decide +kernel, rfl, by decide +kernel, by decide +kernel⟩

abbrev s_lines_at : Stmt := topS 12
abbrev N_lines_at : List Str := ["shop", "place", "kind", "adds", "count"]
theorem sc_lines_at : FnScope N_lines_at ["shop", "place"] (defScope s_lines_at) := ⟨rfl, rfl, rfl, by decide +kernel, rfl, by decide +kernel, by decide +kernel⟩

abbrev s_lines : Stmt := topS 13
abbrev N_lines : List Str := ["shop", "place", "line"]
theorem sc_lines : FnScope N_lines ["shop"] (defScope s_lines) := ⟨rfl, rfl, rfl, by decide +kernel, rfl, by decide +kernel, by decide +kernel⟩

def sp_adds_to : Sp := fun vs H Q _ => ∃ (a : Addr) (os : List Ofr) (p : Nat), vs = [.ref a, .int p] ∧ ShopAt H a os ∧ os.length ≤ 8 ∧ ∀ H' q, Same H H' → H q = none → H' q = some (LI (addsM os p)) → Q (.ref q) H'
def sp_choices : Sp := fun vs H Q _ => ∃ (a : Addr) (ps : List Int), vs = [.ref a] ∧ H a = some (LI ps) ∧ ps.length ≤ 8 ∧ ∀ H' q (as : List Addr), Same H H' → H q = none → H' q = some (.lst (as.map V.ref)) → Al (RowF H H') as (choicesM ps) → Q (.ref q) H'
def sp_lines_at : Sp := fun vs H Q _ => ∃ (a : Addr) (os : List Ofr) (p : Nat), vs = [.ref a, .int p] ∧ ShopAt H a os ∧ os.length ≤ 8 ∧ p < os.length ∧ ∀ H' q, Same H H' → H q = none → LinesF H H' q (linesAtM os p) → Q (.ref q) H'
def sp_lines (T : List Addr) : Sp := fun vs H Q _ => ∃ (a : Addr) (os : List Ofr), vs = [.ref a] ∧ ShopAt H a os ∧ Good os ∧ Tb T H ∧ ∀ H' q, Ext T H H' → H q = none → LinesF H H' q (linesM os) → Q (.ref q) H'
section
variable {P : Program} {w : World} {K : PySem.W.Frag} {mg : Str → Option Value} {base : Heap} {T : List Addr}
theorem ok_adds_to {f : Addr} {fd : FuncData} {k : Nat} (M : Names mg) (D : Def K mg "adds_to" s_adds_to ["shop", "place"] f fd) : FnOk P w K mg base CX0 (k + 1) f fd ["shop", "place"] sp_adds_to := by
  refine D.F.ok sc_adds_to (fun vs H Q E h => ?_) (fun cdv A outer s H vs Q E hr h => ?_)
  · obtain ⟨a, os, p, rfl, _⟩ := h
    rfl
  · obtain ⟨a, os, p, rfl, ⟨vs, h1, h2, h3⟩, h8, q⟩ := h
    refine ⟨_, (pss_one (ps_ret (pe_lc (own := [("at", 2), ("offer", 3)]) (by rfl) sc_adds_to.nd (pi_enum (by rfl) M.enumerate (pa_cons (pv 0) pa_nil)) (blkOk_by (own := [("at", 2), ("offer", 3)]) (N := N_adds_to) (sc := defScope s_adds_to) (by decide +kernel)) (fun _ _ _ _ _ => (pg_tupK (K := K) (n := 2) rfl rfl (pgs_cons (pg_name (i := 2) sc_adds_to.nd rfl (Or.inl rfl)) (pgs_cons (pg_name (i := 3) sc_adds_to.nd rfl (Or.inl rfl)) pgs_nil)))) (fun _ _ _ _ _ => (pts_one (PW.pt (pw_and (pt_cmpR op_eq (pe_ix (ix_tupK (K := K) rfl) (pv 3) pe_int (fun _ _ => rfl)) pe_str (nomark _)) (pw_and1 (pt_cmpR op_eq (pe_ix (ix_tupK (K := K) rfl) (pv 3) pe_int (fun _ _ => rfl)) (pv 1) (nomark _))))))) (fun _ _ _ _ _ => (pv 2))))), ?_⟩
    refine ⟨_, rfl, a, _, rfl, SqL.of h1, fun B nB => lc_it (walk_enum (xs := vs.map V.ref)) (fun i H' => Same H H' ∧ H' B = some (LI (addsN os p i))) ⟨same_upd nB, upd_same⟩ (fun i H' _ hp => SqL.of (hp.1 _ _ h1)) (fun i x H1 H2 hi hp hy => ?_) (fun H1 hp => ?_)⟩
    · obtain ⟨s1, hB⟩ := hp
      obtain ⟨Tt, x1, x2, rfl, nT, rfl, e1, e2⟩ := hy
      cases Option.some.inj e1
      rw [List.length_map] at hi
      obtain ⟨v, o, g1, g2, g3⟩ := ShopAt.get (H := H) (a := a) h2 (show i < os.length by omega)
      have e2' : (vs.map V.ref)[i]? = some x2 := e2
      rw [g3] at e2'
      cases Option.some.inj e2'
      have s2 : Same H (upd H1 Tt (.tup [.int (i : Nat), .ref v])) := s1.trans (same_upd nT)
      have hB2 : upd H1 Tt (.tup [.int (i : Nat), .ref v]) B = some (LI (addsN os p i)) := (same_upd nT) _ _ hB
      have ho := (h3 i v o g1 g2).same s2
      have nlen := addsN_len os p i
      cases o with
      | pack c pr =>
        obtain ⟨b, hb, _⟩ := ho
        have hn : isAdd os p i = false := by unfold isAdd; rw [g2]
        refine ⟨Tt, _, rfl, SqT.of upd_same, rfl, _, _, rfl, _, _, rfl, rfl, rfl, _, rfl, v, _, _, _, rfl, rfl, SqT.of hb, atI_nat (j := 0) rfl, rfl, false, rfl, ?_⟩
        exact ⟨s2, by rw [addsN_no hn]; exact hB2⟩
      | many c ts =>
        obtain ⟨b, t', hb, _⟩ := ho
        have hn : isAdd os p i = false := by unfold isAdd; rw [g2]
        refine ⟨Tt, _, rfl, SqT.of upd_same, rfl, _, _, rfl, _, _, rfl, rfl, rfl, _, rfl, v, _, _, _, rfl, rfl, SqT.of hb, atI_nat (j := 0) rfl, rfl, false, rfl, ?_⟩
        exact ⟨s2, by rw [addsN_no hn]; exact hB2⟩
      | add c pr kk =>
        obtain ⟨b, hb, _⟩ := ho
        refine ⟨Tt, _, rfl, SqT.of upd_same, rfl, _, _, rfl, _, _, rfl, rfl, rfl, _, rfl, v, _, _, _, rfl, rfl, SqT.of hb, atI_nat (j := 0) rfl, rfl, true, rfl, ?_⟩
        refine ⟨_, rfl, v, _, _, _, rfl, rfl, SqT.of hb, atI_nat (j := 3) rfl, _, rfl, rfl, _, rfl, ite2 (fun c => ?_) (fun c => ?_)⟩
        · have ek : kk = (p : Int) := V.int.inj (of_decide_eq_true c)
          have hn : isAdd os p i = true := by unfold isAdd; rw [g2]; exact decide_eq_true ek
          refine ⟨_, rfl, _, hB2, szL' (by rw [List.length_map]; omega), sm_new s2 nB, ?_⟩
          rw [addsN_yes hn]
          exact at_app
        · have hn : isAdd os p i = false := by unfold isAdd; rw [g2]; exact decide_eq_false fun z => c (decide_eq_true (by rw [z]))
          exact ⟨s2, by rw [addsN_no hn]; exact hB2⟩
    · obtain ⟨s1, hB⟩ := hp
      rw [List.length_map, h2] at hB
      exact q H1 B s1 nB hB
theorem ok_choices {f : Addr} {fd : FuncData} {k : Nat} (M : Names mg) (D : Def K mg "choices" s_choices ["places"] f fd) : FnOk P w K mg base CX0 (k + 1) f fd ["places"] sp_choices := by
  refine D.F.ok sc_choices (fun vs H Q E h => ?_) (fun cdv A outer s H vs Q E hr h => ?_)
  · obtain ⟨a, ps, rfl, _⟩ := h
    rfl
  · obtain ⟨a, ps, rfl, ha, h8, q⟩ := h
    refine ⟨_, (pss_cons (ps_set (i := 1) sc_choices.nd rfl (Or.inl rfl) (pe_lst (pa_cons (pe_lst pa_nil) pa_nil)))
  (pss_cons (ps_for PassesOwn.never rfl (pi_reversed (by rfl) M.reversed (pa_cons (pv 0) pa_nil)) (pg_name (i := 2) sc_choices.nd rfl (Or.inr rfl))
   (pss_one (ps_set (i := 1) sc_choices.nd rfl (Or.inl rfl) (pe_op op_cat (pe_op op_cat (pe_lst (pa_cons (pe_lst pa_nil) pa_nil)) (pe_lc (own := [("chosen", 3)]) (by rfl) sc_choices.nd (pi_list (pv 1)) (blkOk_by (own := [("chosen", 3)]) (N := N_choices) (sc := defScope s_choices) (by decide +kernel)) (fun _ _ _ _ _ => (pg_name (i := 3) sc_choices.nd rfl (Or.inl rfl))) (fun _ _ _ _ _ => pts_nil) (fun _ _ _ _ _ => (pe_op op_cat (pe_lst (pa_cons (pv 2) pa_nil)) (pv 3))))) (pe_slice sl_list (pv 1) (po_some pe_int) po_none)))))
  (pss_one (ps_ret (pv 1))))), ?_⟩
    refine ⟨Nat.zero_le _, fun z nz => ⟨by show 1 ≤ sizeLine; decide, fun t nt => ?_⟩⟩
    have nzt : z ≠ t := ne_of_none upd_same nt
    have s0 : Same H (upd (upd H z (.lst [])) t (.lst [.ref z])) := (same_upd nz).trans (same_upd nt)
    refine ⟨_, rfl, a, _, rfl, SqL.of (s0 _ _ ha), for_it (walk_rev (xs := ps.map V.int)) (fun i σ H' => ∃ t y2 as, σ = [some (.ref a), some (.ref t), y2, none] ∧ Same H H' ∧ H t = none ∧ H' t = some (.lst (as.map V.ref)) ∧ Al (RowF H H') as (choicesM (ps.drop (ps.length - i)))) ⟨t, none, [z], rfl, s0, (same_upd nz).free nt, upd_same, ?_⟩ (fun i σ H' _ hp => ?_) (fun i x σ H1 H2 hi hp hy => ?_) (fun σ H1 hp => ?_)⟩
    · rw [Nat.sub_zero, List.drop_length]
      exact .one ⟨by rw [upd_ne nzt]; exact upd_same, nz⟩
    · obtain ⟨t, y2, as, _, s1, _⟩ := hp
      exact SqL.of (s1 _ _ ha)
    · obtain ⟨t1, y2, as, rfl, s1, nt1, ht1, al⟩ := hp
      obtain ⟨rfl, hx⟩ := hy
      rw [List.length_map] at hi hx
      obtain ⟨n, hn, rfl⟩ := of_get_ints hx
      have ed : ps.drop (ps.length - (i + 1)) = n :: ps.drop (ps.length - i) := by
        have hlt : ps.length - 1 - i < ps.length := by omega
        rw [show ps.length - (i + 1) = ps.length - 1 - i by omega, List.drop_eq_getElem_cons hlt, show ps.length - 1 - i + 1 = ps.length - i by omega]
        congr 1
        exact (List.getElem?_eq_some_iff.mp hn).2
      generalize hrs : choicesM (ps.drop (ps.length - i)) = rs at al
      have lrs : rs.length ≤ 256 := by
        rw [← hrs]
        exact choicesM_le (by rw [List.length_drop]; omega)
      have lal := al.len
      refine ⟨Nat.zero_le _, fun z nz => ⟨by show 1 ≤ sizeLine; decide, fun e ne => ?_⟩⟩
      have nze : z ≠ e := ne_of_none upd_same ne
      have s2 : Same H2 (upd (upd H2 z (.lst [])) e (.lst [.ref z])) := (same_upd nz).trans (same_upd ne)
      have hz2 : upd (upd H2 z (.lst [])) e (.lst [.ref z]) z = some (LI []) := by rw [upd_ne nze]; exact upd_same
      have he2 : upd (upd H2 z (.lst [])) e (.lst [.ref z]) e = some (.lst [.ref z]) := upd_same
      generalize upd (upd H2 z (.lst [])) e (.lst [.ref z]) = H3 at s2 hz2 he2 ⊢
      refine ⟨_, rfl, t1, rfl, ⟨_, SqL.of (s2 _ _ ht1)⟩, fun C nC => lc_list (xs := as.map V.ref) (fun j H' => Same H3 H' ∧ ∃ cs : List Addr, H' C = some (.lst (cs.map V.ref)) ∧ Al (RowB H H' C) cs ((rs.take j).map (n :: ·))) ⟨same_upd nC, [], upd_same, True.intro⟩ (fun j H' _ hp => SqL.of (hp.1 _ _ (s2 _ _ ht1))) (fun j x H4 hx hp => ?_) (fun H4 hp => ?_)⟩
      · obtain ⟨s4, cs, hC, alc⟩ := hp
        rw [List.getElem?_map] at hx
        cases hu : as[j]? with
        | none => rw [hu] at hx; cases hx
        | some u =>
          rw [hu] at hx
          cases Option.some.inj hx
          obtain ⟨r, hr, hur⟩ := al.get hu
          have lr : r.length ≤ 8 := by
            have : ∀ (ps : List Int) r, r ∈ choicesM ps → r.length ≤ ps.length := by
              intro ps
              induction ps with
              | nil => intro r h; rw [List.mem_singleton.mp h]; exact Nat.le_refl _
              | cons p ps ih =>
                intro r h
                rcases List.mem_append.mp h with h | h
                · rcases List.mem_append.mp h with h | h
                  · rw [List.mem_singleton.mp h]; exact Nat.zero_le _
                  · obtain ⟨r', h', rfl⟩ := List.mem_map.mp h
                    have := ih r' h'
                    rw [List.length_cons, List.length_cons]
                    omega
                · have := ih r (List.mem_of_mem_tail h)
                  rw [List.length_cons]
                  omega
            have := this (ps.drop (ps.length - i)) r (by rw [hrs]; exact List.mem_of_getElem? hr)
            rw [List.length_drop] at this
            omega
          refine ⟨rfl, _, rfl, by show 1 ≤ sizeLine; decide, fun g ng => ?_⟩
          have hu4 : H4 u = some (LI r) := s4 _ _ (s2 _ _ hur.1)
          have ngu : u ≠ g := ne_of_none hu4 ng
          refine ⟨_, rfl, g, u, _, _, rfl, rfl, upd_same, (by rw [upd_ne ngu]; exact hu4), szL (by rw [List.length_map]; show 1 + r.length ≤ _; omega), fun v nv => ?_⟩
          have s5 : Same H4 (upd (upd H4 g (.lst [.int n])) v (.lst ([.int n] ++ r.map V.int))) := (same_upd ng).trans (same_upd nv)
          have lc := alc.len
          rw [List.length_map, List.length_take] at lc
          refine ⟨_, s5 _ _ hC, szL' (by rw [List.length_map]; omega), sm_new (s4.trans s5) nC, cs ++ [v], ?_, ?_⟩
          · rw [upd_same, List.map_append]
            rfl
          · have nvC : v ≠ C := fun z => by
              rw [z] at nv
              rw [(same_upd ng) _ _ hC] at nv
              cases nv
            rw [take_succ_at hr, List.map_append]
            exact Al.app (alc.imp fun a x h => h.keep ((SameBut.of s5).trans .upd)) (.one ⟨by rw [upd_ne nvC, upd_same]; rfl, ((s1.trans s2).trans s4).free ((same_upd ng).free nv), nvC⟩)
      · obtain ⟨s4, cs, hC, alc⟩ := hp
        rw [List.length_map, lal, List.take_length] at alc
        have lc := alc.len
        rw [List.length_map] at lc
        refine ⟨e, C, _, _, rfl, rfl, s4 _ _ he2, hC, szL (by rw [List.length_map]; show 1 + _ ≤ _; omega), fun g ng => ?_⟩
        refine ⟨_, rfl, 1, rfl, t1, _, rfl, SqL.of ((same_upd ng) _ _ (s4 _ _ (s2 _ _ ht1))), fun sl nsl => ?_⟩
        have s5 : Same H4 (upd (upd H4 g (.lst ([.ref z] ++ cs.map V.ref))) sl (.lst (cutV (as.map V.ref) (some 1) none))) := (same_upd ng).trans (same_upd nsl)
        have hg5 : upd (upd H4 g (.lst ([.ref z] ++ cs.map V.ref))) sl (.lst (cutV (as.map V.ref) (some 1) none)) g = some (.lst ([.ref z] ++ cs.map V.ref)) := (same_upd nsl) _ _ upd_same
        refine ⟨g, sl, _, _, rfl, rfl, hg5, upd_same, szL (by rw [cut1, List.length_drop, List.length_map, List.length_append, List.length_map]; show 1 + _ + _ ≤ _; omega), fun t' nt' => ?_⟩
        have s6 := s5.trans (same_upd (o := .lst ([.ref z] ++ cs.map V.ref ++ cutV (as.map V.ref) (some 1) none)) nt')
        have s46 := (s2.trans s4).trans s6
        refine ⟨t', _, ([z] ++ cs) ++ as.drop 1, rfl, s1.trans s46, ((s1.trans (s2.trans s4)).trans s5).free nt', ?_, ?_⟩
        · rw [upd_same, cut1, List.map_append, List.map_append, List.map_drop]
          rfl
        · rw [ed]
          show Al _ _ (([[]] ++ (choicesM (ps.drop (ps.length - i))).map (n :: ·)) ++ (choicesM (ps.drop (ps.length - i))).tail)
          rw [hrs]
          exact Al.app (Al.app (.one ⟨s6 _ _ (s4 _ _ hz2), s1.free nz⟩) (alc.imp fun a x h => h.toF.keep s6)) ((al.drop1).imp fun a x h => h.keep s46)
    · obtain ⟨t1, y2, as, rfl, s1, nt1, ht1, al⟩ := hp
      rw [List.length_map, Nat.sub_self, List.drop_zero] at al
      exact ⟨_, rfl, q H1 t1 as s1 nt1 ht1 al⟩
end
section
variable {P : Program} {w : World} {K : PySem.W.Frag} {mg : Str → Option Value} {base : Heap} {T : List Addr}
theorem ok_lines_at {f f1 f2 : Addr} {fd fd1 fd2 : FuncData} {k : Nat} (M : Names mg) (D : Def K mg "lines_at" s_lines_at ["shop", "place"] f fd) (D_adds_to : Def K mg "adds_to" s_adds_to ["shop", "place"] f1 fd1) (D_choices : Def K mg "choices" s_choices ["places"] f2 fd2) : FnOk P w K mg base CX0 (k + 2) f fd ["shop", "place"] sp_lines_at := by
  have G_adds_to : FnOk P w K mg base CX0 (k + 1) f1 fd1 ["shop", "place"] sp_adds_to := ok_adds_to M D_adds_to
  have G_choices : FnOk P w K mg base CX0 (k + 1) f2 fd2 ["places"] sp_choices := ok_choices M D_choices
  obtain ⟨t12, m_MOST_PIECES⟩ := M.c_MOST_PIECES
  refine D.F.ok sc_lines_at (fun vs H Q E h => ?_) (fun cdv A outer s H vs Q E hr h => ?_)
  · obtain ⟨a, os, p, rfl, _⟩ := h
    rfl
  · obtain ⟨a, os, p, rfl, hS, h8, hp, q⟩ := h
    obtain ⟨vs, h1, h2, h3⟩ := id hS
    obtain ⟨v, o, g1, g2, g3⟩ := ShopAt.get (H := H) (a := a) h2 hp
    have ho := h3 p v o g1 g2
    refine ⟨_, (pss_cons (ps_set (i := 2) sc_lines_at.nd rfl (Or.inl rfl) (pe_ix ix_tup (pe_ix ix_list (pv 0) (pv 1) (fun _ _ => rfl)) pe_int (fun _ _ => rfl)))
  (pss_cons (ps_if (pt_cmpR op_eq (pv 2) pe_str (nomark _))
   (pss_one (ps_ret (pe_lc (own := [("adds", 3)]) (by rfl) sc_lines_at.nd (pi_list (pe_call G_choices hr (by rfl) D_choices.g D_choices.F.kp D_choices.b .nil pass0 (pa_cons (pe_call G_adds_to hr (by rfl) D_adds_to.g D_adds_to.F.kp D_adds_to.b .nil pass0 (pa_cons (pv 0) (pa_cons (pv 1) pa_nil))) pa_nil))) (blkOk_by (own := [("adds", 3)]) (N := N_lines_at) (sc := defScope s_lines_at) (by decide +kernel)) (fun _ _ _ _ _ => (pg_name (i := 3) sc_lines_at.nd rfl (Or.inl rfl))) (fun _ _ _ _ _ => pts_nil) (fun _ _ _ _ _ => (pe_tup (pa_cons (pv 1) (pa_cons pe_int (pa_cons (pv 3) pa_nil))))))))
   pss_nil)
  (pss_cons (ps_if (pt_cmpR op_eq (pv 2) pe_str (nomark _))
   (pss_one (ps_ret (pe_lc (own := [("count", 4)]) (by rfl) sc_lines_at.nd (pi_range2 (by rfl) M.range (pa_cons pe_int (pa_cons (pe_op op_add (pe_glob (v := .int 12) (by rfl) m_MOST_PIECES ⟨_, rfl⟩) pe_int) pa_nil))) (blkOk_by (own := [("count", 4)]) (N := N_lines_at) (sc := defScope s_lines_at) (by decide +kernel)) (fun _ _ _ _ _ => (pg_name (i := 4) sc_lines_at.nd rfl (Or.inl rfl))) (fun _ _ _ _ _ => pts_nil) (fun _ _ _ _ _ => (pe_tup (pa_cons (pv 1) (pa_cons (pv 4) (pa_cons (pe_lst pa_nil) pa_nil))))))))
   pss_nil)
  (pss_one (ps_ret (pe_lst pa_nil)))))), ?_⟩
    cases o with
    | pack c pr =>
      obtain ⟨b, hb, _⟩ := ho
      have em : linesAtM os p = (choicesM (addsM os p)).map fun c => ⟨p, 1, c⟩ := by unfold linesAtM; rw [g2]
      refine ⟨_, rfl, _, rfl, a, _, _, _, rfl, rfl, SqL.of h1, atI_nat g3, v, _, _, _, rfl, rfl, SqT.of hb, atI_nat (j := 0) rfl, ?_⟩
      refine ⟨_, rfl, rfl, true, rfl, ?_⟩
      refine ⟨_, rfl, _, rfl, a, os, p, rfl, hS, h8, fun H1 ad s1 nad had => ?_⟩
      have la : (addsM os p).length ≤ 8 := Nat.le_trans (addsN_len _ _ _) h8
      refine ⟨ad, addsM os p, rfl, had, la, fun H2 ch as s2 nch hch al => ?_⟩
      have lal := al.len
      have lch := choicesM_le la
      refine ⟨ch, rfl, ⟨_, SqL.of hch⟩, fun B nB => lc_list (xs := as.map V.ref) (fun j H' => Same H2 H' ∧ ∃ ls : List Addr, H' B = some (.lst (ls.map V.ref)) ∧ Al (LineB H H' B) ls (((choicesM (addsM os p)).take j).map fun c => ⟨p, 1, c⟩)) ⟨same_upd nB, [], upd_same, True.intro⟩ (fun j H' _ hp => SqL.of (hp.1 _ _ hch)) (fun j x H3 hx hp => ?_) (fun H3 hp => ?_)⟩
      · obtain ⟨s3, ls, hB, all⟩ := hp
        rw [List.getElem?_map] at hx
        cases hu : as[j]? with
        | none => rw [hu] at hx; cases hx
        | some u =>
          rw [hu] at hx
          cases Option.some.inj hx
          obtain ⟨r, hr, hur, nu⟩ := al.get hu
          have hu3 : H3 u = some (LI r) := s3 _ _ hur
          have nuB : u ≠ B := ne_of_none hur nB
          refine ⟨rfl, _, rfl, _, rfl, by show 3 ≤ sizeLine; decide, fun t nt => ?_⟩
          have ntB : t ≠ B := fun z => by
            rw [z, hB] at nt
            cases nt
          have ntu : u ≠ t := ne_of_none hu3 nt
          have lls := all.len
          rw [List.length_map, List.length_take] at lls
          refine ⟨_, (same_upd nt) _ _ hB, szL' (by rw [List.length_map]; omega), sm_new (s3.trans (same_upd nt)) nB, ls ++ [t], ?_, ?_⟩
          · rw [upd_same, List.map_append]
            rfl
          · rw [take_succ_at hr, List.map_append]
            refine Al.app (all.imp fun l x h => h.keep ((SameBut.of (same_upd nt)).trans .upd)) (.one ⟨u, ?_, ?_, (((s1.trans s2).trans s3).free nt), s1.free nu, ntB, nuB⟩)
            · rw [upd_ne ntB]
              exact upd_same
            · rw [upd_ne nuB]
              exact (same_upd nt) _ _ hu3
      · obtain ⟨s3, ls, hB, all⟩ := hp
        rw [List.length_map, lal, List.take_length] at all
        refine q H3 B ((s1.trans s2).trans s3) ((s1.trans s2).free nB) ⟨ls, hB, ?_⟩
        rw [em]
        exact all.imp fun l x h => h.toF
    | many c ts =>
      obtain ⟨b, t', hb, _⟩ := ho
      have em : linesAtM os p = (List.range 12).map fun i => ⟨p, 1 + (i : Nat), []⟩ := by unfold linesAtM; rw [g2]
      refine ⟨_, rfl, _, rfl, a, _, _, _, rfl, rfl, SqL.of h1, atI_nat g3, v, _, _, _, rfl, rfl, SqT.of hb, atI_nat (j := 0) rfl, ?_⟩
      refine ⟨_, rfl, rfl, false, rfl, ?_⟩
      refine ⟨_, rfl, rfl, true, rfl, ?_⟩
      refine ⟨_, _, rfl, rfl, 1, _, rfl, ⟨by decide, by decide, by decide, by decide⟩, fun B nB => lc_range (lo := 1) (n := 12) (fun j H' => Same H H' ∧ ∃ ls : List Addr, H' B = some (.lst (ls.map V.ref)) ∧ Al (LineB H H' B) ls ((List.range j).map fun i => ⟨p, 1 + (i : Nat), []⟩)) ⟨same_upd nB, [], upd_same, True.intro⟩ (fun j H3 hj hp => ?_) (fun H3 hp => ?_)⟩
      · obtain ⟨s3, ls, hB, all⟩ := hp
        refine ⟨rfl, _, rfl, _, rfl, Nat.zero_le _, fun u nu => ⟨by show 3 ≤ sizeLine; decide, fun t nt => ?_⟩⟩
        have nuB : u ≠ B := fun z => by
          rw [z, hB] at nu
          cases nu
        have hB1 : upd H3 u (.lst []) B = some (.lst (ls.map V.ref)) := (same_upd nu) _ _ hB
        have ntB : t ≠ B := fun z => by
          rw [z, hB1] at nt
          cases nt
        have ntu : u ≠ t := ne_of_none upd_same nt
        have s4 : Same H3 (upd (upd H3 u (.lst [])) t (.tup [.int p, .int (1 + (j : Nat)), .ref u])) := (same_upd nu).trans (same_upd nt)
        have lls := all.len
        rw [List.length_map, List.length_range] at lls
        refine ⟨_, s4 _ _ hB, szL' (by rw [List.length_map]; omega), sm_new (s3.trans s4) nB, ls ++ [t], ?_, ?_⟩
        · rw [upd_same, List.map_append]
          rfl
        · rw [List.range_succ, List.map_append]
          refine Al.app (all.imp fun l x h => h.keep ((SameBut.of s4).trans .upd)) (.one ⟨u, ?_, ?_, s3.free ((same_upd nu).free nt), s3.free nu, ntB, nuB⟩)
          · rw [upd_ne ntB]
            exact upd_same
          · rw [upd_ne nuB, upd_ne ntu]
            exact upd_same
      · obtain ⟨s3, ls, hB, all⟩ := hp
        refine q H3 B s3 nB ⟨ls, hB, ?_⟩
        rw [em]
        exact all.imp fun l x h => h.toF
    | add c pr kk =>
      obtain ⟨b, hb, _⟩ := ho
      have em : linesAtM os p = [] := by unfold linesAtM; rw [g2]
      refine ⟨_, rfl, _, rfl, a, _, _, _, rfl, rfl, SqL.of h1, atI_nat g3, v, _, _, _, rfl, rfl, SqT.of hb, atI_nat (j := 0) rfl, ?_⟩
      refine ⟨_, rfl, rfl, false, rfl, ?_⟩
      refine ⟨_, rfl, rfl, false, rfl, ?_⟩
      refine ⟨Nat.zero_le _, fun B nB => q _ B (same_upd nB) nB ⟨[], upd_same, ?_⟩⟩
      rw [em]
      exact True.intro
theorem ok_lines {f f1 f2 f3 f4 f5 f6 f7 c t : Addr} {fd fd1 fd2 fd3 fd4 fd5 fd6 fd7 : FuncData} {k : Nat} (M : Names mg) (D : Def K mg "lines" s_lines ["shop"] f fd) (D_look : Def K mg "look" s_look ["shop"] f1 fd1) (D_can_stand : Def K mg "can_stand" s_can_stand ["shop", "at"] f2 fd2) (D_names_pack : Def K mg "names_pack" s_names_pack ["shop", "at"] f3 fd3) (D_good_tiers : Def K mg "good_tiers" s_good_tiers ["tiers"] f4 fd4)
    (hc : fd4.code = .ref c) (TB : GxR.TabB base mg c t) (ht : t ∈ T) (D_lines_at : Def K mg "lines_at" s_lines_at ["shop", "place"] f5 fd5) (D_adds_to : Def K mg "adds_to" s_adds_to ["shop", "place"] f6 fd6) (D_choices : Def K mg "choices" s_choices ["places"] f7 fd7) : FnOk P w K mg base CX0 (k + 4) f fd ["shop"] (sp_lines T) := by
  have G_look : FnOk P w K mg base CX0 (k + 3) f1 fd1 ["shop"] (sp_look T) := ok_look M D_look D_can_stand D_names_pack D_good_tiers hc TB ht
  have G_lines_at : FnOk P w K mg base CX0 (k + 3) f5 fd5 ["shop", "place"] sp_lines_at := ok_lines_at M D_lines_at D_adds_to D_choices
  refine D.F.ok sc_lines (fun vs H Q E h => ?_) (fun cdv A outer s H vs Q E hr h => ?_)
  · obtain ⟨a, os, rfl, _⟩ := h
    rfl
  · obtain ⟨a, os, rfl, hS, gd, hT, q⟩ := h
    refine ⟨_, (pss_cons (ps_expr (pe_call G_look hr (by rfl) D_look.g D_look.F.kp D_look.b .nil pass0 (pa_cons (pv 0) pa_nil)))
  (pss_one (ps_ret (pe_lc2 (own := [("place", 1), ("line", 2)]) (vs1 := [2]) (by rfl) sc_lines.nd (pi_range1 (by rfl) M.range (pa_cons (pe_callB call_len_seq (by rfl) M.len (by decide +kernel) (pa_cons (pv 0) pa_nil)) pa_nil)) (blkOk_by (own := [("place", 1), ("line", 2)]) (N := N_lines) (sc := defScope s_lines) (by decide +kernel)) (by decide) (fun _ _ _ _ _ => (pg_name (i := 1) sc_lines.nd rfl (Or.inl rfl))) (fun _ _ _ _ _ => pts_nil) (fun _ _ _ _ _ => (pi_listK (K := K) rfl (pe_call G_lines_at hr (by rfl) D_lines_at.g D_lines_at.F.kp D_lines_at.b .nil pass0 (pa_cons (pv 0) (pa_cons (pv 1) pa_nil))))) (fun _ _ _ _ _ => (pg_name (i := 2) sc_lines.nd rfl (Or.inl rfl))) (fun _ _ _ _ _ => pts_nil) (fun _ _ _ _ _ => (pv 2)))))), ?_⟩
    refine ⟨_, rfl, a, os, rfl, hS, gd, hT, fun H1 e1 => ?_⟩
    have hS1 := hS.ext e1
    obtain ⟨vs, h1, h2, h3⟩ := id hS1
    have h8 := gd.1
    refine ⟨_, rfl, a, _, rfl, .inl (SqL.of h1), _, rfl, by omega, by rw [List.length_map]; omega, fun B nB => ?_⟩
    have nBH : H B = none := e1.free _ nB
    refine ⟨fun i m H' => m = os.length - i ∧ i ≤ os.length ∧ Same H1 H' ∧ ∃ ls : List Addr, H' B = some (.lst (ls.map V.ref)) ∧ Al (LineB H H' B) ls ((List.range i).flatMap (linesAtM os)), ⟨_, rfl, Nat.zero_le _, same_upd nB, [], upd_same, True.intro⟩, fun i m H2 hW => ?_⟩
    obtain ⟨rfl, hi, s2, ls, hB, all⟩ := hW
    by_cases hil : i < os.length
    · refine .inr ⟨by show i < Int.toNat _; rw [Int.toNat_natCast, List.length_map]; omega, fun H' => Same H1 H' ∧ ∃ ls : List Addr, H' B = some (.lst (ls.map V.ref)) ∧ Al (LineB H H' B) ls ((List.range (i + 1)).flatMap (linesAtM os)), fun H' hN => ⟨_, by omega, rfl, hil, hN⟩, fun x H3 hy => ?_⟩
      obtain ⟨rfl, rfl⟩ := hy
      refine ⟨rfl, _, rfl, _, rfl, a, os, i, by show [V.ref a, V.int (0 + (i : Int))] = _; rw [Int.zero_add], hS1.same s2, h8, hil, fun H4 L s4 nL hL => ?_⟩
      obtain ⟨as, hLl, alL⟩ := hL
      have lal := alL.len
      have tot := linesN_len h8 i
      have one := linesAtM_len h8 i
      have hB4 := s4 _ _ hB
      have nLB : L ≠ B := fun z => by
        rw [z, hB] at nL
        cases nL
      have fr : ∀ b, H3 b = none → H b = none := fun b z => e1.free _ (s2.free z)
      have alB : Al (LineB H H4 B) as (linesAtM os i) := alL.imp fun l x h => h.toB fr (by rw [hB]; exact fun z => nomatch z)
      refine ⟨L, rfl, ⟨_, SqL.of hLl⟩, fun j m' H' => m' = as.length - j ∧ j ≤ as.length ∧ Same H1 H' ∧ H' L = some (.lst (as.map V.ref)) ∧ Al (LineB H H' B) as (linesAtM os i) ∧ ∃ ls : List Addr, H' B = some (.lst (ls.map V.ref)) ∧ Al (LineB H H' B) ls ((List.range i).flatMap (linesAtM os) ++ (linesAtM os i).take j), ⟨_, rfl, Nat.zero_le _, s2.trans s4, hLl, alB, ls, hB4, ?_⟩, fun j m' H5 hW1 => ?_⟩
      · rw [List.take_zero, List.append_nil]
        exact all.imp fun l x h => h.keep (.of s4)
      · obtain ⟨rfl, hj, s5, hL5, al5, ls5, hB5, all5⟩ := hW1
        by_cases hjl : j < as.length
        · obtain ⟨l, hl⟩ : ∃ l, as[j]? = some l := ⟨_, List.getElem?_eq_getElem hjl⟩
          have gl : (as.map V.ref)[j]? = some (.ref l) := by rw [List.getElem?_map, hl]; rfl
          obtain ⟨ln, hln, hlat⟩ := al5.get hl
          refine .inr ⟨⟨_, _, SqL.of hL5, gl⟩, fun H' => Same H1 H' ∧ H' L = some (.lst (as.map V.ref)) ∧ Al (LineB H H' B) as (linesAtM os i) ∧ ∃ ls : List Addr, H' B = some (.lst (ls.map V.ref)) ∧ Al (LineB H H' B) ls ((List.range i).flatMap (linesAtM os) ++ (linesAtM os i).take (j + 1)), fun H' hN => ⟨_, by omega, rfl, hjl, hN⟩, fun x H6 hy => ?_⟩
          obtain ⟨rfl, fy⟩ := hy
          have ex : x = .ref l := Option.some.inj ((fy _ (SqL.of hL5)).symm.trans gl)
          subst ex
          have l5 := all5.len
          rw [List.length_append, List.length_take] at l5
          refine ⟨rfl, _, rfl, _, hB5, szL' (by rw [List.length_map]; omega), sm_new s5 nB, ?_, ?_, ls5 ++ [l], ?_, ?_⟩
          · rw [upd_ne nLB]
            exact hL5
          · exact al5.imp fun l x h => h.keep .upd
          · rw [upd_same, List.map_append]
            rfl
          · rw [take_succ_at hln, ← List.append_assoc]
            exact Al.app (all5.imp fun l x h => h.keep .upd) (.one (hlat.keep .upd))
        · refine .inl ⟨⟨_, SqL.of hL5, by rw [List.length_map]; omega⟩, s5, ls5, hB5, ?_⟩
          rw [List.take_of_length_le (by omega)] at all5
          rw [List.range_succ, List.flatMap_append, List.flatMap_singleton]
          exact all5
    · have ei : i = os.length := by omega
      refine .inl ⟨by show Int.toNat _ ≤ i; rw [Int.toNat_natCast, List.length_map]; omega, ?_⟩
      rw [ei] at all
      exact q H2 B (e1.trans (.same s2 e1.t1)) nBH ⟨ls, hB, all.imp fun l x h => h.toF⟩
end
/-! ### sum(number for x in list): a generator expression over a list -/
def tSumN (K : PySem.W.Frag) (P : Addr) (R : L2.St → Hp → List V → (Nat → Int) → Prop) (te : TE) : TE := fun σ H Q => te σ H fun v H1 => ∃ (a : Addr) (xs : List V) (val : Nat → Int), v = .ref a ∧ SqL K H1 a xs ∧ GxR.TabG H1 P ∧ R σ H1 xs val ∧
  (∀ j, j < xs.length → InLong (val j) ∧ InLong (preSum val (j + 1))) ∧ ∀ H2, GxR.Tabbed P H1 H2 → Q (.int (preSum val xs.length)) H2
def EltN (X : Cx) (P : Addr) (scope : Scope) (x : Str) (elt : Expr) (R : L2.St → Hp → List V → (Nat → Int) → Prop) : Prop :=
  ∀ (pins : List (Addr × Obj)) (σ : L2.St) (H1 : Hp) (s1 : Shared) (xs : List V) (val : Nat → Int), Inv X pins σ H1 s1 → GxR.TabG H1 P → R σ H1 xs val →
    ∀ (cenv : Env) (A' : Around) (E' : Value → Shared → Prop) (i : Nat) (v : V) (va : Value) (s₂ : Shared) (m₂ : Str → Option Value), cenv.scope = scope → cenv.cells = cloFrom X.env.cells scope.names [] → cenv.globals = mainGlobals → cenv.builtins = builtinsNs →
      A'.handled = none → xs[i]? = some v → RelV v va → s₂.heap.Ns cenv.locals m₂ → m₂ x = some va → (∀ b o, b ≠ P → s1.heap.get? b = some o → s₂.heap.get? b = some o) →
      wpAny (model X.prog X.w) A' (eval elt cenv) (fun y s₃ => (∃ t, y = .int (val i) t) ∧ Keeps s₂ s₃) E' s₂
section
variable {X : Cx}
theorem pe_sumList {c P : Addr} {elt e : Expr} {x : Str} {px p pos gpos : Pos} {scope : Scope} {te : TE} {k : Nat} {R : L2.St → Hp → List V → (Nat → Int) → Prop}
    (hr : Room k X.A) (hg : Gl X "sum") (hm : X.mg "sum" = none) (hb : bootBuiltins "sum" = some (.builtin "sum")) (TB : GxR.TabB X.base X.mg c P) (hcode : X.env.code = .ref c) (S : GenS1 X.env.scope scope x) (hi : PE X e te)
    (hel : EltN X P scope x elt R)
    (hs : ∀ v, genFold e X.env v = pure v := by intro _; rfl)
    (he : starEach [.GeneratorExp elt [⟨.Name x px, e, [], 0⟩] scope gpos] X.env = (false, eval (.GeneratorExp elt [⟨.Name x px, e, [], 0⟩] scope gpos) X.env) :: starEach [] X.env := by rfl) :
    PE X (.Call (.Name "sum" p) [.GeneratorExp elt [⟨.Name x px, e, [], 0⟩] scope gpos] [] pos) (tSumN X.K P R te) := by
  refine ⟨fun pins s σ H Q I h => call_gen hg hm hb he I (gen_ones hr TB hcode S hs I (thn (hi.run pins s σ H _ I h) fun u0 s1 r => ?_))⟩
  obtain ⟨_, H1, J, isRef, a, xs, val, rfl, sq, tab, hR, fit, q⟩ := r
  cases isRef
  obtain ⟨its, rv, at_, _⟩ := J.list sq
  have many : its.toArray.size = xs.length := List.size_toArray.trans rv.length.symm
  have la : a < s1.heap.objs.size := at_.lt
  obtain ⟨oa, ea, ca, _⟩ := id at_.isList
  have aP : a ≠ P := tab_ne J tab ea (.inl fun z => by rw [ca] at z; cases z)
  have lP : P < s1.heap.objs.size := tab.elim fun _ x => Heap.lt_size (show s1.heap.get? P = _ from J.hok P _ x.1)
  refine wpAny_pyIter_list at_.isList ?_
  refine ⟨_, _, _, _, _, _, fun i y => ∃ t, y = .int (val i) t, pins, σ, H1, s1, rfl, ⟨J, tab, ⟨_, s1.toks, rfl⟩, fun b o e => Heap.get?_push_of_some _ e, by rw [Heap.size_push]; exact Nat.le_succ _, fun b hb => ?_, fun b hb => ?_⟩,
    fun A' calm => Walks.list calm s1.heap.objs.size a (Nat.ne_of_lt la) its.toArray, ⟨⟨_, Heap.get?_push_size _ rfl, rfl, rfl⟩, at_.isList.push _⟩, ?_, ?_⟩
  · rw [Heap.size_push]
    simp only [List.mem_cons, List.not_mem_nil, or_false] at hb
    rcases hb with rfl | rfl
    · exact ⟨Nat.lt_succ_self _, Nat.ne_of_gt lP⟩
    · exact ⟨Nat.lt_succ_of_lt la, aP⟩
  · exact Nat.le_of_eq (List.mem_singleton.mp hb).symm
  · intro cenv A' E' i va u m T hPt ns ma
    have there : its[i]? = some va := by simpa using hPt
    obtain ⟨v, hv⟩ : ∃ v, xs[i]? = some v := ⟨_, List.getElem?_eq_getElem (rv.length.symm ▸ (List.getElem?_eq_some_iff.mp there).1)⟩
    obtain ⟨w, hw, rw_⟩ := rv.get hv
    cases there.symm.trans hw
    exact hel pins σ H1 s1 xs val J tab hR cenv A' E' i v _ u m T.own T.cells T.glob T.blt T.calm hv rw_ ns ma T.still
  · rintro g s5 ⟨fp, wr, G, F', St, W, st, low, say, held⟩
    refine call_sum_walkS (W.self 0 _ _ _ st ⟨g, fp, wr, G, _, F', St, val, rfl, W, st, low, say, fun j lj => fit j (many ▸ lj), fun s' t' mv => ?_⟩)
    obtain ⟨H2, grown, J2⟩ := held s' mv
    exact ⟨.int _, H2, J2, ⟨t', rfl⟩, many ▸ q H2 grown⟩
end
/-! ### lines: what they hold and cost, as lists -/
def togM (a b : List Int) : List Int := List.zipWith (· + ·) a b
theorem togM_get {a b : List Int} {i : Nat} {x y : Int} (h : a[i]? = some x) (h2 : b[i]? = some y) : (togM a b)[i]? = some (x + y) := by
  unfold togM
  rw [List.getElem?_zipWith, h, h2]
theorem togM_len (a b : List Int) : (togM a b).length = min a.length b.length := by
  unfold togM
  rw [List.length_zipWith]
def contAt (os : List Ofr) (x : Int) : List Int := match os[x.toNat]? with
  | some o => o.cont
  | none => []
def contM (os : List Ofr) (l : Ln) : List Int := l.as.foldl (fun acc x => togM acc (contAt os x)) ((contAt os l.p).map (l.c * ·))
def pieceL (ts : List (Int × Int)) (c : Int) : List Int := (ts.filter fun t => decide (t.1 ≤ c)).map (·.2)
def pieceM (ts : List (Int × Int)) (c : Int) : Int := (pieceL ts c).getLastD 0
def addPr (os : List Ofr) (x : Int) : Int := match os[x.toNat]? with
  | some (.add _ p _) => p
  | some (.pack _ p) => p
  | _ => 0
def priceM (os : List Ofr) (l : Ln) : Int := match os[l.p.toNat]? with
  | some (.many _ ts) => l.c * pieceM ts l.c
  | some (.pack _ p) => p + (l.as.map (addPr os)).sum
  | _ => 0
/-- l is a line of os -/
def LineOk (os : List Ofr) (l : Ln) : Prop := ∃ p : Nat, l.p = (p : Int) ∧ ((∃ c ts, os[p]? = some (.many c ts) ∧ GoodT ts ∧ 1 ≤ l.c ∧ l.c ≤ 12 ∧ l.as = []) ∨
  (∃ c pr, os[p]? = some (.pack c pr) ∧ l.c = 1 ∧ l.as.length ≤ 8 ∧ ∀ x ∈ l.as, ∃ j : Nat, x = (j : Int) ∧ ∃ c' pr' k, os[j]? = some (.add c' pr' k)))
/-- contents are short, prices of adds within bounds -/
def Fit (os : List Ofr) : Prop := ∀ o ∈ os, o.cont.length ≤ 1000 ∧ ∀ c p k, o = .add c p k → -10000000000000000 ≤ p ∧ p ≤ 10000000000000000
def LineAt (H : Hp) (a : Addr) (l : Ln) : Prop := ∃ b, H a = some (.tup [.int l.p, .int l.c, .ref b]) ∧ H b = some (LI l.as)
theorem LineF.at {H0 H : Hp} {a : Addr} {l : Ln} (h : LineF H0 H a l) : LineAt H a l := by
  obtain ⟨b, h1, h2, _⟩ := h
  exact ⟨b, h1, h2⟩
theorem LineAt.ext {T : List Addr} {H H' : Hp} {a : Addr} {l : Ln} (e : Ext T H H') (h : LineAt H a l) : LineAt H' a l := by
  obtain ⟨b, h1, h2⟩ := h
  exact ⟨b, e.tup h1, e.lst h2⟩
theorem contAt_get {os : List Ofr} {j : Nat} {o : Ofr} (h : os[j]? = some o) : contAt os (j : Int) = o.cont := by
  unfold contAt
  rw [Int.toNat_natCast, h]
theorem pieceL_take {ts : List (Int × Int)} {c : Int} {i : Nat} {t : Int × Int} (h : ts[i]? = some t) : pieceL (ts.take (i + 1)) c = if t.1 ≤ c then pieceL (ts.take i) c ++ [t.2] else pieceL (ts.take i) c := by
  unfold pieceL
  rw [take_succ_at h, List.filter_append, List.map_append]
  by_cases z : t.1 ≤ c
  · rw [if_pos z]
    simp [z]
  · rw [if_neg z]
    simp [z]
/-! ### together, content_of, piece_price -/
abbrev s_together : Stmt := topS 14
abbrev N_together : List Str := ["content", "other", "number", "more"]
theorem sc_together : FnScope N_together ["content", "other"] (defScope s_together) := ⟨rfl, rfl, rfl, by decide +kernel, rfl, by decide +kernel, by decide +kernel⟩

abbrev s_content_of : Stmt := topS 15
abbrev N_content_of : List Str := ["shop", "line", "content", "add", "adds", "place", "count", "number"]
theorem sc_content_of : FnScope N_content_of ["shop", "line"] (defScope s_content_of) := ⟨rfl, rfl, rfl, by decide +kernel, rfl, by decide +kernel, by decide +kernel⟩

abbrev s_piece_price : Stmt := topS 16
abbrev N_piece_price : List Str := ["tiers", "count", "begin", "price"]
theorem sc_piece_price : FnScope N_piece_price ["tiers", "count"] (defScope s_piece_price) := ⟨rfl, rfl, rfl, by decide +kernel, rfl, by decide +kernel, by decide +kernel⟩

abbrev s_price_of : Stmt := topS 17
abbrev N_price_of : List Str := ["shop", "line", "offer", "place", "count", "adds", "add"]
theorem sc_price_of : FnScope N_price_of ["shop", "line"] (defScope s_price_of) := ⟨rfl, rfl, rfl, by decide +kernel, rfl, by decide +kernel, by decide +kernel⟩

def sp_together : Sp := fun vs H Q _ => ∃ (a b : Addr) (xs ys : List Int), vs = [.ref a, .ref b] ∧ H a = some (LI xs) ∧ H b = some (LI ys) ∧ xs.length ≤ 1000 ∧ ∀ H' q, Same H H' → H q = none → H' q = some (LI (togM xs ys)) → Q (.ref q) H'
def sp_content_of : Sp := fun vs H Q _ => ∃ (a la : Addr) (os : List Ofr) (l : Ln), vs = [.ref a, .ref la] ∧ ShopAt H a os ∧ LineAt H la l ∧ LineOk os l ∧ Fit os ∧ ∀ H' q, Same H H' → H q = none → H' q = some (LI (contM os l)) → Q (.ref q) H'
def sp_piece_price : Sp := fun vs H Q _ => ∃ (a : Addr) (ts : List (Int × Int)) (c : Int), vs = [.ref a, .int c] ∧ TiersAt H a ts ∧ GoodT ts ∧ 1 ≤ c ∧ ∀ H', Same H H' → Q (.int (pieceM ts c)) H'
def sp_price_of (T : List Addr) : Sp := fun vs H Q _ => ∃ (a la : Addr) (os : List Ofr) (l : Ln), vs = [.ref a, .ref la] ∧ ShopAt H a os ∧ LineAt H la l ∧ LineOk os l ∧ Fit os ∧ Tb T H ∧ ∀ H', Ext T H H' → Q (.int (priceM os l)) H'
section
variable {P : Program} {w : World} {K : PySem.W.Frag} {mg : Str → Option Value} {base : Heap} {T : List Addr}
theorem ok_together {f : Addr} {fd : FuncData} {k : Nat} (M : Names mg) (D : Def K mg "together" s_together ["content", "other"] f fd) : FnOk P w K mg base CX0 (k + 1) f fd ["content", "other"] sp_together := by
  refine D.F.ok sc_together (fun vs H Q E h => ?_) (fun cdv A outer s H vs Q E hr h => ?_)
  · obtain ⟨a, b, xs, ys, rfl, _⟩ := h
    rfl
  · obtain ⟨a, b, xs, ys, rfl, ha, hb, hl, q⟩ := h
    refine ⟨_, (pss_one (ps_ret (pe_lc (own := [("number", 2), ("more", 3)]) (by rfl) sc_together.nd (pi_zip (by rfl) M.zip (pa_cons (pv 0) (pa_cons (pv 1) pa_nil))) (blkOk_by (own := [("number", 2), ("more", 3)]) (N := N_together) (sc := defScope s_together) (by decide +kernel)) (fun _ _ _ _ _ => (pg_tupK (K := K) (n := 2) rfl rfl (pgs_cons (pg_name (i := 2) sc_together.nd rfl (Or.inl rfl)) (pgs_cons (pg_name (i := 3) sc_together.nd rfl (Or.inl rfl)) pgs_nil)))) (fun _ _ _ _ _ => pts_nil) (fun _ _ _ _ _ => (pe_op op_add (pv 2) (pv 3)))))), ?_⟩
    refine ⟨_, rfl, _, rfl, a, b, _, _, rfl, SqL.of ha, SqL.of hb, fun B nB => lc_it (walk_zip (xs := xs.map V.int) (ys := ys.map V.int) rfl) (fun i H' => Same H H' ∧ H' B = some (LI ((togM xs ys).take i))) ⟨same_upd nB, upd_same⟩ (fun i H' _ hp => ⟨SqL.of (hp.1 _ _ ha), SqL.of (hp.1 _ _ hb)⟩) (fun i x H1 H2 hi hp hy => ?_) (fun H1 hp => ?_)⟩
    · obtain ⟨s1, hB⟩ := hp
      obtain ⟨Tt, x1, x2, rfl, nT, rfl, e1, e2⟩ := hy
      obtain ⟨n, hn, rfl⟩ := of_get_ints e1
      obtain ⟨m, hm, rfl⟩ := of_get_ints e2
      rw [List.length_map, List.length_map] at hi
      have hB2 := (same_upd (o := .tup [.int n, .int m]) nT) _ _ hB
      refine ⟨Tt, _, rfl, SqT.of upd_same, rfl, _, _, rfl, _, _, rfl, rfl, rfl, _, rfl, _, rfl, _, _, rfl, rfl, _, hB2, szL' (by rw [List.length_map, List.length_take]; omega), sm_new (s1.trans (same_upd nT)) nB, ?_⟩
      rw [take_succ_at (togM_get hn hm)]
      exact at_app
    · obtain ⟨s1, hB⟩ := hp
      rw [List.length_map, List.length_map, List.take_of_length_le (by rw [togM_len]; exact Nat.le_refl _)] at hB
      exact q H1 B s1 nB hB
theorem ok_content_of {f f1 : Addr} {fd fd1 : FuncData} {k : Nat} (M : Names mg) (D : Def K mg "content_of" s_content_of ["shop", "line"] f fd) (D_together : Def K mg "together" s_together ["content", "other"] f1 fd1) : FnOk P w K mg base CX0 (k + 2) f fd ["shop", "line"] sp_content_of := by
  have G_together : FnOk P w K mg base CX0 (k + 1) f1 fd1 ["content", "other"] sp_together := ok_together M D_together
  refine D.F.ok sc_content_of (fun vs H Q E h => ?_) (fun cdv A outer s H vs Q E hr h => ?_)
  · obtain ⟨a, la, os, l, rfl, _⟩ := h
    rfl
  · obtain ⟨a, la, os, l, rfl, hS, ⟨b, hl1, hl2⟩, lok, fit, q⟩ := h
    obtain ⟨vs, h1, h2, h3⟩ := id hS
    obtain ⟨p, ep, ways⟩ := lok
    have main : ∃ o, os[p]? = some o ∧ -1000 ≤ l.c ∧ l.c ≤ 1000 ∧ ∀ x ∈ l.as, ∃ j : Nat, x = (j : Int) ∧ j < os.length := by
      rcases ways with ⟨c, ts, w1, _, w2, w3, w4⟩ | ⟨c, pr, w1, w2, w3, w4⟩
      · exact ⟨_, w1, by omega, by omega, fun x hx => by rw [w4] at hx; cases hx⟩
      · refine ⟨_, w1, by omega, by omega, fun x hx => ?_⟩
        obtain ⟨j, ej, c', pr', k', hj⟩ := w4 x hx
        exact ⟨j, ej, (List.getElem?_eq_some_iff.mp hj).1⟩
    obtain ⟨o, ho, hc1, hc2, hadds⟩ := main
    have hp : p < os.length := (List.getElem?_eq_some_iff.mp ho).1
    obtain ⟨v, o', g1, g2, g3⟩ := ShopAt.get (H := H) (a := a) h2 hp
    cases Option.some.inj (g2.symm.trans ho)
    obtain ⟨bc, r, hv, hbc⟩ := (h3 p v _ g1 g2).head
    have fo := (fit _ (List.mem_of_getElem? ho)).1
    refine ⟨_, (pss_cons (ps_asg (pv 1) (pg_tup rfl (pgs_cons (pg_name (i := 5) sc_content_of.nd rfl (Or.inl rfl)) (pgs_cons (pg_name (i := 6) sc_content_of.nd rfl (Or.inr rfl)) (pgs_cons (pg_name (i := 4) sc_content_of.nd rfl (Or.inl rfl)) pgs_nil)))))
  (pss_cons (ps_setLc (i := 2) (own := [("number", 7)]) (by rfl) sc_content_of.nd rfl rfl (sw_true rfl rfl rfl (by decide +kernel)) (pi_list (pe_ix ix_tup (pe_ix ix_list (pv 0) (pv 5) (fun _ _ => rfl)) pe_int (fun _ _ => rfl))) (blkOk_by (own := [("number", 7)]) (N := N_content_of) (sc := defScope s_content_of) (by decide +kernel)) (fun _ _ _ _ _ => (pg_name (i := 7) sc_content_of.nd rfl (Or.inl rfl))) (fun _ _ _ _ _ => pts_nil) (fun _ _ _ _ _ => (pe_op op_mul (pv 6) (pv 7))))
  (pss_cons (ps_for PassesOwn.never rfl (pi_list (pv 4)) (pg_name (i := 3) sc_content_of.nd rfl (Or.inl rfl))
   (pss_one (ps_set (i := 2) sc_content_of.nd rfl (Or.inl rfl) (pe_call G_together hr (by rfl) D_together.g D_together.F.kp D_together.b .nil pass0 (pa_cons (pv 2) (pa_cons (pe_ix ix_tup (pe_ix ix_list (pv 0) (pv 3) (fun _ _ => rfl)) pe_int (fun _ _ => rfl)) pa_nil))))))
  (pss_one (ps_ret (pv 2)))))), ?_⟩
    refine ⟨_, rfl, la, _, rfl, SqT.of hl1, rfl, _, _, rfl, _, _, rfl, _, _, rfl, rfl, ?_⟩
    refine ⟨_, rfl, _, rfl, a, _, _, _, rfl, rfl, SqL.of h1, at_of ep g3, v, _, _, _, rfl, rfl, SqT.of hv, atI_nat (j := 1) rfl, bc, rfl, ⟨_, SqL.of hbc⟩, fun B nB => lc_list (xs := o.cont.map V.int) (fun j H' => Same H H' ∧ H' B = some (LI ((o.cont.take j).map (l.c * ·)))) ⟨same_upd nB, upd_same⟩ (fun j H' _ hp => SqL.of (hp.1 _ _ hbc)) (fun j x H1 hx hp => ?_) (fun H1 hp => ?_)⟩
    · obtain ⟨s1, hB⟩ := hp
      obtain ⟨n, hn, rfl⟩ := of_get_ints hx
      have hj := (List.getElem?_eq_some_iff.mp hn).1
      refine ⟨rfl, _, rfl, _, rfl, _, _, rfl, rfl, .inl ⟨by omega, by omega⟩, _, hB, szL' (by rw [List.length_map, List.length_map, List.length_take]; omega), sm_new s1 nB, ?_⟩
      rw [take_succ_at hn, List.map_append]
      exact at_app
    · obtain ⟨s1, hB⟩ := hp
      rw [List.length_map, List.take_length] at hB
      have e0 : contAt os l.p = o.cont := by rw [ep]; exact contAt_get ho
      refine ⟨_, rfl, b, rfl, ⟨_, SqL.of (s1 _ _ hl2)⟩, for_list (xs := l.as.map V.int) (fun j σ H' => ∃ (cq : Addr) (y3 : Option V), σ = [some (.ref a), some (.ref la), some (.ref cq), y3, some (.ref b), some (.int l.p), some (.int l.c), none] ∧ Same H H' ∧ H cq = none ∧ H' cq = some (LI ((l.as.take j).foldl (fun acc x => togM acc (contAt os x)) (o.cont.map (l.c * ·)))) ∧ ((l.as.take j).foldl (fun acc x => togM acc (contAt os x)) (o.cont.map (l.c * ·))).length ≤ 1000) ⟨B, _, rfl, s1, nB, hB, by rw [List.take_zero]; show (o.cont.map _).length ≤ _; rw [List.length_map]; exact fo⟩ (fun j σ H' _ hp => ?_) (fun j x σ H2 hx hp => ?_) (fun σ H2 hp => ?_)⟩
      · obtain ⟨_, _, _, s2, _⟩ := hp
        exact SqL.of (s2 _ _ hl2)
      · obtain ⟨cq, y3, rfl, s2, ncq, hcq, hlen⟩ := hp
        obtain ⟨n, hn, rfl⟩ := of_get_ints hx
        obtain ⟨j2, rfl, hj2⟩ := hadds n (List.mem_of_getElem? hn)
        obtain ⟨v2, o2, k1, k2, k3⟩ := ShopAt.get (H := H) (a := a) h2 hj2
        obtain ⟨b2, r2, hv2, hb2⟩ := (h3 j2 v2 _ k1 k2).head
        refine ⟨_, rfl, _, rfl, _, rfl, a, _, _, _, rfl, rfl, SqL.of (s2 _ _ h1), atI_nat k3, v2, _, _, _, rfl, rfl, SqT.of (s2 _ _ hv2), atI_nat (j := 1) rfl, cq, b2, _, _, rfl, hcq, s2 _ _ hb2, hlen, fun H3 q3 s3 nq3 hq3 => ?_⟩
        refine ⟨q3, _, rfl, s2.trans s3, s2.free nq3, ?_, ?_⟩
        · rw [take_succ_at hn, List.foldl_append]
          show H3 q3 = some (LI (togM _ (contAt os (j2 : Int))))
          rw [contAt_get k2]
          exact hq3
        · rw [take_succ_at hn, List.foldl_append]
          show (togM _ _).length ≤ 1000
          rw [togM_len]
          omega
      · obtain ⟨cq, y3, rfl, s2, ncq, hcq, hlen⟩ := hp
        rw [List.length_map, List.take_length] at hcq
        refine ⟨_, rfl, q H2 cq s2 ncq ?_⟩
        unfold contM
        rw [e0]
        exact hcq
theorem ok_piece_price {f : Addr} {fd : FuncData} {k : Nat} (M : Names mg) (D : Def K mg "piece_price" s_piece_price ["tiers", "count"] f fd) : FnOk P w K mg base CX0 (k + 1) f fd ["tiers", "count"] sp_piece_price := by
  refine D.F.ok sc_piece_price (fun vs H Q E h => ?_) (fun cdv A outer s H vs Q E hr h => ?_)
  · obtain ⟨a, ts, c, rfl, _⟩ := h
    rfl
  · obtain ⟨a, ts, c, rfl, ⟨us, h1, h2, h3⟩, gd, hc, q⟩ := h
    have few := gd.few
    have pos := gd.pos
    refine ⟨_, (pss_one (ps_ret (pe_ix ix_list (pe_lc (own := [("begin", 2), ("price", 3)]) (by rfl) sc_piece_price.nd (pi_list (pv 0)) (blkOk_by (own := [("begin", 2), ("price", 3)]) (N := N_piece_price) (sc := defScope s_piece_price) (by decide +kernel)) (fun _ _ _ _ _ => (pg_tupK (K := K) (n := 2) rfl rfl (pgs_cons (pg_name (i := 2) sc_piece_price.nd rfl (Or.inl rfl)) (pgs_cons (pg_name (i := 3) sc_piece_price.nd rfl (Or.inl rfl)) pgs_nil)))) (fun _ _ _ _ _ => (pts_one (pt_cmpR op_le (pv 2) (pv 1) (nomark _)))) (fun _ _ _ _ _ => (pv 3))) (pe_un un_neg pe_int) (fun _ _ => rfl)))), ?_⟩
    refine ⟨_, rfl, a, rfl, ⟨_, SqL.of h1⟩, fun B nB => lc_list (xs := us.map V.ref) (fun i H' => Same H H' ∧ H' B = some (LI (pieceL (ts.take i) c)) ∧ (pieceL (ts.take i) c).length ≤ i) ⟨same_upd nB, upd_same, Nat.le_refl _⟩ (fun i H' _ hp => SqL.of (hp.1 _ _ h1)) (fun i x H1 hx hp => ?_) (fun H1 hp => ?_)⟩
    · obtain ⟨s1, hB, hlen⟩ := hp
      rw [List.getElem?_map] at hx
      cases hu : us[i]? with
      | none => rw [hu] at hx; cases hx
      | some u =>
        rw [hu] at hx
        cases Option.some.inj hx
        have hi : i < ts.length := by
          have := (List.getElem?_eq_some_iff.mp hu).1
          omega
        have gt := List.getElem?_eq_getElem hi
        refine ⟨u, _, rfl, SqT.of (s1 _ _ (h3 i u _ hu gt)), rfl, _, _, rfl, _, _, rfl, rfl, rfl, _, rfl, _, rfl, _, _, rfl, rfl, _, rfl, ite2 (fun z => ?_) (fun z => ?_)⟩
        · have z2 := of_decide_eq_true z
          refine ⟨_, rfl, _, hB, szL' (by rw [List.length_map]; omega), sm_new s1 nB, ?_, ?_⟩
          · rw [pieceL_take gt, if_pos z2]
            exact at_app
          · rw [pieceL_take gt, if_pos z2, List.length_append, List.length_singleton]
            omega
        · have z2 : ¬ (ts[i]).1 ≤ c := fun y => z (decide_eq_true y)
          refine ⟨s1, ?_, ?_⟩
          · rw [pieceL_take gt, if_neg z2]
            exact hB
          · rw [pieceL_take gt, if_neg z2]
            omega
    · obtain ⟨s1, hB, hlen⟩ := hp
      rw [List.length_map, h2, List.take_length] at hB
      have ne : pieceL ts c ≠ [] := by
        have g0 := List.getElem?_eq_getElem (show 0 < ts.length by omega)
        have e1 := gd.one _ g0
        have hm : (ts[0]'(by omega)) ∈ ts.filter fun t => decide (t.1 ≤ c) := List.mem_filter.mpr ⟨List.getElem_mem _, decide_eq_true (by omega)⟩
        intro z
        unfold pieceL at z
        rw [List.map_eq_nil_iff] at z
        rw [z] at hm
        cases hm
      have hneg : atI ((pieceL ts c).map V.int) (-1) = some (.int (pieceM ts c)) := by
        have e : pieceL ts c = (pieceL ts c).dropLast ++ [pieceM ts c] := by
          unfold pieceM
          rw [List.getLastD_eq_getLast?, List.getLast?_eq_getLast ne]
          exact (List.dropLast_concat_getLast ne).symm
        rw [e, List.map_append]
        exact atI_last _ _
      exact ⟨1, rfl, B, _, -1, _, rfl, rfl, SqL.of hB, hneg, q H1 s1⟩
end
/-! ### price_of -/
/-- the element: shop[add][2] -/
def RPr (H0 : Hp → Prop) : L2.St → Hp → List V → (Nat → Int) → Prop := fun σ H xs val => ∃ (a : Addr) (os : List Ofr) (as : List Int), σ[0]? = some (some (.ref a)) ∧ ShopAt H a os ∧ xs = as.map V.int ∧ (∀ x ∈ as, ∃ j : Nat, x = (j : Int) ∧ ∃ c p k, os[j]? = some (.add c p k)) ∧ val = fun i => addPr os (as.getD i 0)
theorem preSum_map (os : List Ofr) (as : List Int) : ∀ n, n ≤ as.length → preSum (fun i => addPr os (as.getD i 0)) n = ((as.take n).map (addPr os)).sum
  | 0, _ => rfl
  | n + 1, h => by
    have ih := preSum_map os as n (by omega)
    have g := List.getElem?_eq_getElem (show n < as.length by omega)
    show preSum _ n + addPr os (as.getD n 0) = _
    rw [ih, take_succ_at g, List.map_append, List.sum_append, List.getD_eq_getElem?_getD, g]
    simp
theorem sum_bound (os : List Ofr) : ∀ (as : List Int), (∀ x ∈ as, -10000000000000000 ≤ addPr os x ∧ addPr os x ≤ 10000000000000000) → -(10000000000000000 * (as.length : Int)) ≤ (as.map (addPr os)).sum ∧ (as.map (addPr os)).sum ≤ 10000000000000000 * (as.length : Int)
  | [], _ => by simp
  | a :: r, h => by
    have ih := sum_bound os r fun x hx => h x (List.mem_cons_of_mem _ hx)
    have h1 := h a List.mem_cons_self
    rw [List.map_cons, List.sum_cons, List.length_cons]
    omega
section
variable {P : Program} {w : World} {K : PySem.W.Frag} {mg : Str → Option Value} {base : Heap} {T : List Addr}
theorem ok_price_of {f f1 c t : Addr} {fd fd1 : FuncData} {k : Nat} (M : Names mg) (D : Def K mg "price_of" s_price_of ["shop", "line"] f fd) (hc : fd.code = .ref c) (TB : GxR.TabB base mg c t) (ht : t ∈ T) (D_piece_price : Def K mg "piece_price" s_piece_price ["tiers", "count"] f1 fd1) : FnOk P w K mg base CX0 (k + 2) f fd ["shop", "line"] (sp_price_of T) := by
  have G_piece_price : FnOk P w K mg base CX0 (k + 1) f1 fd1 ["tiers", "count"] sp_piece_price := ok_piece_price M D_piece_price
  refine okc D.F hc sc_price_of (fun vs H Q E h => ?_) (fun cdv A outer s H vs Q E ec hr h => ?_)
  · obtain ⟨a, la, os, l, rfl, _⟩ := h
    rfl
  · obtain ⟨a, la, os, l, rfl, hS, ⟨b, hl1, hl2⟩, lok, fit, hT, q⟩ := h
    obtain ⟨vs, h1, h2, h3⟩ := id hS
    obtain ⟨p, ep, ways⟩ := lok
    refine ⟨_, (pss_cons (ps_asg (pv 1) (pg_tup rfl (pgs_cons (pg_name (i := 3) sc_price_of.nd rfl (Or.inl rfl)) (pgs_cons (pg_name (i := 4) sc_price_of.nd rfl (Or.inl rfl)) (pgs_cons (pg_name (i := 5) sc_price_of.nd rfl (Or.inl rfl)) pgs_nil)))))
  (pss_cons (ps_set (i := 2) sc_price_of.nd rfl (Or.inl rfl) (pe_ix ix_list (pv 0) (pv 3) (fun _ _ => rfl)))
  (pss_cons (ps_if (pt_cmpR op_eq (pe_ix ix_tup (pv 2) pe_int (fun _ _ => rfl)) pe_str (nomark _))
   (pss_one (ps_ret (pe_op op_mul (pv 4) (pe_call G_piece_price hr (by rfl) D_piece_price.g D_piece_price.F.kp D_piece_price.b .nil pass0 (pa_cons (pe_ix ix_tup (pv 2) pe_int (fun _ _ => rfl)) (pa_cons (pv 4) pa_nil))))))
   pss_nil)
  (pss_one (ps_ret (pe_op op_add (pe_ix ix_tup (pv 2) pe_int (fun _ _ => rfl)) (pe_sumList (R := RPr (fun _ => True)) hr (by rfl) M.sum (by decide +kernel) TB ec ⟨rfl, rfl, by decide +kernel, rfl, rfl, (by show ∀ y : Str × NameKind, y ∈ _ → y.2 = .free → (defScope s_price_of).names.lookup y.1 = some .cell; decide +kernel)⟩ (pv 5) ?el))))))), ?_⟩
    case el =>
      intro pins σ H1 s1 xs val I1 hT1 hR cenv A' E' i v va s₂ m₂ c1 c2 c3 c4 c5 hv rva hn hma hk
      obtain ⟨a1, os1, as1, e0, ⟨vs1, k1, k2, k3⟩, rfl, hadds, rfl⟩ := hR
      obtain ⟨n, hnn, rfl⟩ := of_get_ints hv
      obtain ⟨t2, rfl⟩ := rva
      obtain ⟨j, rfl, cc', pp, kk, hj⟩ := hadds n (List.mem_of_getElem? hnn)
      have lj : j < os1.length := (List.getElem?_eq_some_iff.mp hj).1
      obtain ⟨v1, o1, g1, g2, g3⟩ := ShopAt.get (H := H1) (a := a1) k2 lj
      cases Option.some.inj (g2.symm.trans hj)
      obtain ⟨b1, hv1, _⟩ := k3 j v1 _ g1 g2
      obtain ⟨m1, hns1, hl1'⟩ := I1.loc
      obtain ⟨u, ru, lk⟩ := hl1' 0 "shop" _ rfl e0 (.inr (.inl rfl))
      cases ru
      rcases lk with ⟨kk', _⟩ | ⟨_, cc, hcc, hcell⟩
      · exact absurd (show (defScope s_price_of).names.lookup ("shop" : Str) = some .local from kk') (by decide +kernel)
      · obtain ⟨its, rv, pl, hz⟩ := I1.list (SqL.of k1)
        obtain ⟨itst, rvt, plt, hzt⟩ := I1.tuple (SqT.of hv1)
        obtain ⟨oc, eoc, doc⟩ := id hcell
        have ncP : cc ≠ t := tab_ne I1 hT1 eoc (.inr fun vs z => by rw [doc] at z; cases z)
        obtain ⟨oa, ea, ca, na, da⟩ := id pl.isList
        have naP : a1 ≠ t := tab_ne I1 hT1 ea (.inl (by rw [ca]; exact fun z => nomatch z))
        obtain ⟨ot, et, ct, nt, dt⟩ := id plt
        have nvP : v1 ≠ t := tab_ne I1 hT1 et (.inl (by rw [ct]; exact fun z => nomatch z))
        have hcell2 : s₂.heap.IsCell cc (some (.ref a1)) := ⟨oc, hk _ _ ncP eoc, doc⟩
        have hL2 : s₂.heap.IsList a1 its.toArray := pl.isList.at fun o e => hk _ _ naP e
        have hT2 : IsTup s₂.heap v1 itst.toArray := ⟨ot, hk _ _ nvP et, ct, nt, dt⟩
        have hcl : cenv.cells.lookup ("shop" : Str) = some cc := by
          rw [c2]
          show some (((envOfC "price_of" (defScope s_price_of) s.heap.objs.size f cdv).cells.lookup ("shop" : Str)).getD 0) = some cc
          rw [show (envOfC "price_of" (defScope s_price_of) s.heap.objs.size f cdv).cells.lookup ("shop" : Str) = some cc from hcc]
          rfl
        have sk : cenv.scope.kind = .function := by rw [c1]
        have hn63 := line63
        obtain ⟨uj, hu1, ru1⟩ := rv.get g3
        cases ru1
        obtain ⟨up, hu2, ru2⟩ := rvt.get (show ([V.str "add", V.ref b1, V.int pp, V.int kk] : List V)[2]? = some (.int pp) from rfl)
        obtain ⟨tp, rfl⟩ := ru2
        have lv := rv.length
        have lvt := rvt.length
        rw [List.length_map] at lv
        have l4 : itst.length = 4 := by rw [← lvt]; rfl
        refine Subscript_ (Subscript_ (wpAny_Name (wpAny_loadName_free sk (by show cenv.scope.names.lookup ("shop" : Str) = _; rw [c1]; rfl) hcl hcell2 (wpAny_Name (wpAny_loadName_local sk (by show cenv.scope.names.lookup ("add" : Str) = _; rw [c1]; rfl) hn hma ?_)))))
        have hz' : os1.length ≤ sizeLine := by
          have := hz
          rw [List.length_map, k2] at this
          exact this
        have hj63 : (j : Int) < 2 ^ 63 := by omega
        refine item_listR hL2 (by omega) hj63 (x := .ref v1) (by rw [Int.toNat_natCast]; simpa using hu1) ?_
        refine wpAny_Constant_int ?_
        refine subscriptTail_builtinR (x := .int pp tp) hT2.typeIs slot_tuple_getitem.lookup (getItem_tuple (s := { s₂ with toks := s₂.toks + 1 }) (j := 2) (Q := fun r s' => r = .int pp tp ∧ (∃ t, r = .int (addPr os1 (as1.getD i 0)) t) ∧ Keeps s₂ s') hT2 (by decide) (by decide) (by rw [List.size_toArray, l4]; exact (ixN_seq (ixN_nat (n := 4) (j := 2) (by decide))).1) (by simpa using hu2) ⟨rfl, ⟨tp, ?_⟩, GxR.keeps_tok _ _⟩) rfl
        rw [show as1.getD i 0 = ((j : Nat) : Int) by rw [List.getD_eq_getElem?_getD, hnn]; rfl]
        unfold addPr
        rw [Int.toNat_natCast, hj]
    refine ⟨_, rfl, la, _, rfl, SqT.of hl1, rfl, _, _, rfl, _, _, rfl, _, _, rfl, rfl, ?_⟩
    rcases ways with ⟨c0, ts, w1, w0, w2, w3, w4⟩ | ⟨c0, pr, w1, w2, w3, w4⟩
    · have hp : p < os.length := (List.getElem?_eq_some_iff.mp w1).1
      obtain ⟨v, o', g1, g2, g3⟩ := ShopAt.get (H := H) (a := a) h2 hp
      cases Option.some.inj (g2.symm.trans w1)
      obtain ⟨bc, tt, hv, hbc, hts⟩ := h3 p v _ g1 g2
      refine ⟨_, rfl, _, rfl, a, _, _, _, rfl, rfl, SqL.of h1, at_of ep g3, ?_⟩
      refine ⟨_, rfl, v, _, _, _, rfl, rfl, SqT.of hv, atI_nat (j := 0) rfl, rfl, true, rfl, ?_⟩
      refine ⟨_, rfl, _, rfl, v, _, _, _, rfl, rfl, SqT.of hv, atI_nat (j := 2) rfl, _, rfl, tt, ts, l.c, rfl, hts, w0, w2, fun H1 s1 => ⟨_, _, rfl, rfl, .inl ⟨by omega, by omega⟩, ?_⟩⟩
      have e := q H1 (.same s1 hT)
      unfold priceM at e
      rw [ep, Int.toNat_natCast, w1] at e
      exact e
    · have hp : p < os.length := (List.getElem?_eq_some_iff.mp w1).1
      obtain ⟨v, o', g1, g2, g3⟩ := ShopAt.get (H := H) (a := a) h2 hp
      cases Option.some.inj (g2.symm.trans w1)
      obtain ⟨bc, hv, hbc⟩ := h3 p v _ g1 g2
      have bnd : ∀ x ∈ l.as, -10000000000000000 ≤ addPr os x ∧ addPr os x ≤ 10000000000000000 := fun x hx => by
        obtain ⟨j, rfl, c', p', k', hj⟩ := w4 x hx
        have := (fit _ (List.mem_of_getElem? hj)).2 c' p' k' rfl
        unfold addPr
        rw [Int.toNat_natCast, hj]
        exact this
      have bsub : ∀ n, n ≤ l.as.length → InLong (((l.as.take n).map (addPr os)).sum) := fun n hn => by
        have := sum_bound os (l.as.take n) fun x hx => bnd x (List.mem_of_mem_take hx)
        rw [List.length_take, Nat.min_eq_left hn] at this
        unfold InLong
        omega
      refine ⟨_, rfl, _, rfl, a, _, _, _, rfl, rfl, SqL.of h1, at_of ep g3, ?_⟩
      refine ⟨_, rfl, v, _, _, _, rfl, rfl, SqT.of hv, atI_nat (j := 0) rfl, rfl, false, rfl, ?_⟩
      refine ⟨_, rfl, v, _, _, _, rfl, rfl, SqT.of hv, atI_nat (j := 2) rfl, _, rfl, b, _, (fun i => addPr os (l.as.getD i 0)), rfl, SqL.of hl2, hT t ht, ⟨a, os, l.as, rfl, hS, rfl, w4, rfl⟩, fun j hj => ?_, fun H2 t2 => ⟨_, _, rfl, rfl, ?_⟩⟩
      · rw [List.length_map] at hj
        refine ⟨?_, ?_⟩
        · have := bnd _ (List.getElem_mem hj)
          show InLong (addPr os (l.as.getD j 0))
          rw [show l.as.getD j 0 = l.as[j] by rw [List.getD_eq_getElem?_getD, List.getElem?_eq_getElem hj]; rfl]
          unfold InLong
          omega
        · rw [preSum_map os l.as (j + 1) (by omega)]
          exact bsub _ (by omega)
      · rw [List.length_map, preSum_map os l.as _ (Nat.le_refl _), List.take_length]
        have e := q H2 (.tabbed hT t2 ht)
        unfold priceM at e
        rw [ep, Int.toNat_natCast, w1] at e
        exact e
end
/-! ### any(xs) of ints; tuple(xs) at a written K -/
theorem truth_ints {prog : Program} {w : World} {A : Around} {ns : List Int} {its : List Value} (rv : Vals (ns.map V.int) its) :
    TruthOf prog w A (fun i v => its.toArray[i]? = some v) (fun i => (ns.getD i 0) != 0) := by
  intro i v s Q E at_ q
  have inIts : its[i]? = some v := by simpa using at_
  have li : i < ns.length := List.length_map (f := V.int) ▸ rv.length.symm ▸ (List.getElem?_eq_some_iff.mp inIts).1
  obtain ⟨_, hu, t, rfl⟩ := rv.get (get_ints (List.getElem?_eq_getElem li))
  cases inIts.symm.trans hu
  have same : ns.getD i 0 = ns[i] := by
    rw [List.getD_eq_getElem?_getD, List.getElem?_eq_getElem li]
    rfl
  exact PySem.P.truthy_int (same ▸ q)
def anyI (ns : List Int) : Bool := ns.any (· != 0)
theorem anyI_range : ∀ ns : List Int, (List.range ns.length).any (fun i => (ns.getD i 0) != 0) = anyI ns
  | [] => rfl
  | b :: bs => by
    unfold anyI
    rw [List.length_cons, List.range_succ_eq_map, List.any_cons, List.any_map, List.any_cons]
    have ih := anyI_range bs
    unfold anyI at ih
    rw [← ih]
    rfl
def rAnyI (K : PySem.W.Frag) : List V → Hp → VK → Prop := fun vs H Q => ∃ (a : Addr) (ns : List Int), vs = [V.ref a] ∧ SqL K H a (ns.map V.int) ∧ Q (.bl (anyI ns)) H
theorem cr_anyI {X : Cx} (hc : X.calm = true) : CallR X (.builtin "any") (rAnyI X.K) := by
  rintro pins s σ H _ us Q I r ⟨a, ns, rfl, held, q⟩
  obtain ⟨its, rv, there, _⟩ := I.list held
  have many : its.length = ns.length := rv.length.symm.trans (List.length_map ..)
  cases Vals.ref1 r
  refine call_any_walk (iter_any there.isList ?_)
  rintro t rfl st apart
  refine ⟨_, _, _, _, _, _, _, rfl, Walks.list (A := X.A.in1) (I.ok.hd hc) _ a apart its.toArray, st, truth_ints rv, fun h' tk more => ⟨.bl _, H, I.kept fun b o e => more b o (fun z => ?_) (Heap.get?_push_of_some _ e), ?_, q⟩⟩
  · cases List.mem_singleton.mp z
    exact Nat.lt_irrefl _ (Heap.lt_size e)
  · exact congrArg Value.bool (by rw [← anyI_range, List.size_toArray, many])
theorem cr_anyIK {X : Cx} {K : PySem.W.Frag} (h : X.K = K) (hc : X.calm = true) : CallR X (.builtin "any") (rAnyI K) := by subst h; exact cr_anyI hc
theorem pe_tupleOfK {X : Cx} {K : PySem.W.Frag} {a : Expr} {ta : TE} {p pos : Pos} (h : X.K = K) (hg : Gl X "tuple") (hm : X.mg "tuple" = none) (ha : PE X a ta) (na : starEach [a] X.env = (false, eval a X.env) :: starEach [] X.env := by rfl) :
    PE X (.Call (.Name "tuple" p) [a] [] pos) (tThen ta (kTup K)) := by subst h; exact pe_tupleOf hg hm ha na
/-! ### had -/
abbrev s_had : Stmt := topS 20
abbrev N_had : List Str := ["content", "thing"]
theorem sc_had : FnScope N_had ["content", "thing"] (defScope s_had) := ⟨rfl, rfl, rfl, by decide +kernel, rfl, by decide +kernel, by decide +kernel⟩

def hadM (cs : List Int) (i : Nat) : Int := cs.getD i 0
theorem hadM_in {cs : List Int} {i : Nat} (h : i < cs.length) : cs[i]? = some (hadM cs i) := by
  unfold hadM
  rw [List.getD_eq_getElem?_getD, List.getElem?_eq_getElem h]
  rfl
theorem hadM_out {cs : List Int} {i : Nat} (h : ¬ i < cs.length) : hadM cs i = 0 := by
  unfold hadM
  rw [List.getD_eq_getElem?_getD, List.getElem?_eq_none (by omega)]
  rfl
def sp_had (K : PySem.W.Frag) : Sp := fun vs H Q _ => ∃ (a : Addr) (cs : List Int) (i : Nat), vs = [.ref a, .int i] ∧ SqL K H a (cs.map V.int) ∧ Q (.int (hadM cs i)) H
section
variable {P : Program} {w : World} {K : PySem.W.Frag} {mg : Str → Option Value} {base : Heap}
theorem ok_had {f : Addr} {fd : FuncData} {k : Nat} (M : Names mg) (D : Def K mg "had" s_had ["content", "thing"] f fd) : FnOk P w K mg base CX0 (k + 1) f fd ["content", "thing"] (sp_had K) := by
  refine D.F.ok sc_had (fun vs H Q E h => ?_) (fun cdv A outer s H vs Q E hr h => ?_)
  · obtain ⟨a, cs, i, rfl, _⟩ := h
    rfl
  · obtain ⟨a, cs, i, rfl, ha, q⟩ := h
    refine ⟨_, (pss_one (ps_ret (pe_ifExp (pt_cmpR op_lt (pv 1) (pe_callB call_len_seq (by rfl) M.len (by decide +kernel) (pa_cons (pv 0) pa_nil)) (nomark _)) (pe_ix ix_list (pv 0) (pv 1) (fun _ _ => rfl)) pe_int))), ?_⟩
    refine ⟨_, rfl, _, rfl, a, _, rfl, .inl ha, _, _, rfl, rfl, _, rfl, ite2 (fun c => ?_) (fun c => ?_)⟩
    · have c2 : (i : Int) < ((cs.map V.int).length : Int) := of_decide_eq_true c
      rw [List.length_map] at c2
      exact ⟨_, rfl, _, rfl, a, _, _, _, rfl, rfl, ha, atI_nat (get_ints (hadM_in (by omega))), q⟩
    · have c2 : ¬ (i : Int) < ((cs.map V.int).length : Int) := fun z => c (decide_eq_true z)
      rw [List.length_map] at c2
      rw [hadM_out (by omega)] at q
      exact q
/-- had, called where nothing is known of the frames: all objects stay -/
theorem had_quiet {f : Addr} {fd : FuncData} {mb : Str → Option Value} (M : Names mg) (D : Def K mg "had" s_had ["content", "thing"] f fd) {A' : Around} {E' : Value → Shared → Prop} {s : Shared} {L : Addr} {cs : List Int} {its : List Value} {i : Nat} {t : Tok} (KX : K.In s.heap)
    (hg : s.heap.Ns mainGlobals mg) (hb : s.heap.Ns builtinsNs mb) (hbb : ∀ x : Str, x ≠ "__name__" → mb x = bootBuiltins x) (hlim : s.heap.NoLimit) (hA : A'.depth < recursionLimit)
    (hL : s.heap.IsList L its.toArray) (rv : Vals (cs.map V.int) its) (hz : cs.length ≤ sizeLine) :
    wpAny (model P w) A' (call (.ref f) [.ref L, .int i t]) (fun y s₃ => (∃ t', y = .int (hadM cs i) t') ∧ Keeps s s₃) E' s := by
  obtain ⟨oc, od, kV, doc, pm, an, cdv, ct, osl, rfl, lk, hcd⟩ := D.F.ex
  refine wpAny_call (Att.call_fn KX hlim lk hcd hA (D.b s [.ref L, .int i t] KX rfl) (by rfl) (fun s₁ x => ?_) rfl rfl rfl)
  obtain ⟨h1, tk1, e1, keep1⟩ := x.done
  have hn := x.toInCall.ns
  subst e1
  have hL1 : h1.IsList L its.toArray := hL.at fun o e => keep1 L o e
  have hll := rv.length
  rw [List.length_map] at hll
  have hn63 := line63
  have fin : ∀ (v : Value) (s' : Shared), (∃ t', v = .int (hadM cs i) t') → Keeps { s with heap := h1, toks := tk1 } s' → (∃ t', v = .int (hadM cs i) t') ∧ Keeps s s' := fun v s' hv ⟨h', tk', e, kk⟩ => ⟨hv, h', tk', e, fun b o e => kk b o (keep1 b o e)⟩
  have nameC : ∀ {Q : Value → Shared → Prop} {E : Value → Shared → Prop} {pos : Pos} {tk : Nat}, Q (.ref L) { s with heap := h1, toks := tk } → wpAny (model P w) (A'.deeper (envOfC "had" (defScope s_had) s.heap.objs.size f cdv)) (eval (.Name "content" pos) (envOfC "had" (defScope s_had) s.heap.objs.size f cdv)) Q E { s with heap := h1, toks := tk } := fun h => wpAny_Name (wpAny_loadName_local rfl rfl hn rfl h)
  have nameT : ∀ {Q : Value → Shared → Prop} {E : Value → Shared → Prop} {pos : Pos} {tk : Nat}, Q (.int i t) { s with heap := h1, toks := tk } → wpAny (model P w) (A'.deeper (envOfC "had" (defScope s_had) s.heap.objs.size f cdv)) (eval (.Name "thing" pos) (envOfC "had" (defScope s_had) s.heap.objs.size f cdv)) Q E { s with heap := h1, toks := tk } := fun h => wpAny_Name (wpAny_loadName_local rfl rfl hn rfl h)
  show wpAny _ _ (execs (defBody s_had) (envOfC "had" (defScope s_had) s.heap.objs.size f cdv)) _ _ _
  refine wpAny_execs_cons (wpAny_Return_some (wpAny_IfExp (wpAny_isTrue_Compare1 (nameT ?_))))
  refine wpAny_Call_Name_kw (Calls.Name_function_global rfl rfl (Calls.loadGlobal_builtin (hg.keeps keep1) M.len (hb.keeps keep1) ((hbb "len" (by decide)).trans boot_len) ?_))
  refine PyProof.Rows.callWith_builtin1 (Calls.spliced_cons (nameC (Calls.spliced_nil ?_)))
  refine Calls.call_len_list (hl := hL1) (by rw [List.size_toArray]; omega) ?_
  refine lt_int (wpAny_truthy_bool ?_)
  by_cases c : (i : Int) < (its.toArray.size : Int)
  · rw [decide_eq_true c]
    rw [List.size_toArray] at c
    have hi : i < cs.length := by omega
    obtain ⟨u, hu, ru⟩ := rv.get (get_ints (hadM_in hi))
    obtain ⟨t', rfl⟩ := ru
    refine Subscript_ (nameC (nameT ?_))
    refine item_listR hL1 (by omega) (by omega) (x := .int (hadM cs i) t') (by rw [Int.toNat_natCast]; simpa using hu) ?_
    exact fin _ _ ⟨t', rfl⟩ ⟨_, _, rfl, fun b o e => e⟩
  · rw [decide_eq_false c]
    rw [List.size_toArray] at c
    refine wpAny_Constant_int ?_
    exact fin _ _ ⟨_, by rw [hadM_out (by omega)]⟩ ⟨_, _, rfl, fun b o e => e⟩
end
abbrev s_rest : Stmt := topS 21
abbrev N_rest : List Str := ["want", "content", "thing", "number"]
theorem sc_rest : FnScope N_rest ["want", "content"] (defScope s_rest) := ⟨rfl, rfl, rfl, by decide +kernel, rfl, by decide +kernel, by decide +kernel⟩

/-! ### rest -/
def restM (ws cs : List Int) : List Int := (List.range ws.length).map fun i => if ws.getD i 0 - hadM cs i > 0 then ws.getD i 0 - hadM cs i else 0
theorem restM_get {ws cs : List Int} {i : Nat} {n : Int} (h : ws[i]? = some n) : (restM ws cs)[i]? = some (if n - hadM cs i > 0 then n - hadM cs i else 0) := by
  have hi : i < ws.length := (List.getElem?_eq_some_iff.mp h).1
  unfold restM
  rw [List.getElem?_map, List.getElem?_range hi]
  show some (if ws.getD i 0 - hadM cs i > 0 then ws.getD i 0 - hadM cs i else 0) = _
  rw [show ws.getD i 0 = n by rw [List.getD_eq_getElem?_getD, h]; rfl]
theorem restM_len (ws cs : List Int) : (restM ws cs).length = ws.length := by
  unfold restM
  rw [List.length_map, List.length_range]
def sp_rest (K : PySem.W.Frag) : Sp := fun vs H Q _ => ∃ (a b : Addr) (ws cs : List Int), vs = [.ref a, .ref b] ∧ SqL K H a (ws.map V.int) ∧ SqL K H b (cs.map V.int) ∧ ws.length ≤ 1000 ∧ ∀ H' p, Same H H' → H p = none → H' p = some (LI (restM ws cs)) → Q (.ref p) H'
section
variable {P : Program} {w : World} {K : PySem.W.Frag} {mg : Str → Option Value} {base : Heap}
theorem ok_rest {f fh : Addr} {fd fdh : FuncData} {k : Nat} (M : Names mg) (D : Def K mg "rest" s_rest ["want", "content"] f fd) (D_had : Def K mg "had" s_had ["content", "thing"] fh fdh) : FnOk P w K mg base CX0 (k + 2) f fd ["want", "content"] (sp_rest K) := by
  have G_had : FnOk P w K mg base CX0 (k + 1) fh fdh ["content", "thing"] (sp_had K) := ok_had M D_had
  refine D.F.ok sc_rest (fun vs H Q E h => ?_) (fun cdv A outer s H vs Q E hr h => ?_)
  · obtain ⟨a, b, ws, cs, rfl, _⟩ := h
    rfl
  · obtain ⟨a, b, ws, cs, rfl, ha, hb, hl, q⟩ := h
    refine ⟨_, (pss_one (ps_ret (pe_lc (own := [("thing", 2), ("number", 3)]) (by rfl) sc_rest.nd (pi_enum (by rfl) M.enumerate (pa_cons (pv 0) pa_nil)) (blkOk_by (own := [("thing", 2), ("number", 3)]) (N := N_rest) (sc := defScope s_rest) (by decide +kernel)) (fun _ _ _ _ _ => (pg_tupK (K := K) (n := 2) rfl rfl (pgs_cons (pg_name (i := 2) sc_rest.nd rfl (Or.inl rfl)) (pgs_cons (pg_name (i := 3) sc_rest.nd rfl (Or.inl rfl)) pgs_nil)))) (fun _ _ _ _ _ => pts_nil) (fun _ _ _ _ _ => (pe_callB (call_max2 rfl) (by rfl) M.max (by decide +kernel) (pa_cons pe_int (pa_cons (pe_op op_sub (pv 3) (pe_call G_had hr (by rfl) D_had.g D_had.F.kp D_had.b .nil pass0 (pa_cons (pv 1) (pa_cons (pv 2) pa_nil)))) pa_nil))))))), ?_⟩
    refine ⟨_, rfl, a, _, rfl, ha, fun L nL => lc_it (walk_enum (xs := ws.map V.int)) (fun i H' => Same H H' ∧ H' L = some (LI ((restM ws cs).take i))) ⟨same_upd nL, upd_same⟩ (fun i H' _ hp => hp.1.seq ha) (fun i x H1 H2 hi hp hy => ?_) (fun H1 hp => ?_)⟩
    · obtain ⟨s1, hL⟩ := hp
      obtain ⟨T, x1, x2, rfl, nT, rfl, e1, e2⟩ := hy
      cases Option.some.inj e1
      obtain ⟨n, hn, rfl⟩ := of_get_ints e2
      have nLT : L ≠ T := ne_of_none hL nT
      have s2 : Same H (upd H1 T (.tup [.int (i : Nat), .int n])) := s1.trans (same_upd nT)
      rw [List.length_map] at hi
      refine ⟨T, _, rfl, SqT.of upd_same, rfl, _, _, rfl, _, _, rfl, rfl, rfl, _, rfl, _, rfl, _, rfl, b, cs, i, rfl, s2.seq hb, _, _, rfl, rfl, _, _, rfl, _, (by rw [upd_ne nLT]; exact hL), szL' (by rw [List.length_map, List.length_take]; omega), sm_new s2 nL, ?_⟩
      rw [take_succ_at (restM_get hn)]
      exact at_app
    · obtain ⟨s1, hL⟩ := hp
      rw [List.length_map, List.take_of_length_le (by rw [restM_len]; omega)] at hL
      exact q _ L s1 nL hL
end
/-! ### small numbers -/
def casesM (ws : List Int) : Int := ws.foldl (fun p w => p * (w + 1)) 1
theorem casesM_take {ws : List Int} {i : Nat} {x : Int} (h : ws[i]? = some x) : casesM (ws.take (i + 1)) = casesM (ws.take i) * (x + 1) := by
  unfold casesM
  rw [take_succ_at h, List.foldl_append]
  rfl
theorem first_at : ∀ {l : List Int} {x : Int}, x ∈ l → ∃ j : Nat, l[j]? = some x ∧ ∀ (m : Nat) y, m < j → l[m]? = some y → y ≠ x
  | a :: r, x, h => by
    by_cases e : a = x
    · subst e
      exact ⟨0, rfl, fun m y hm => absurd hm (Nat.not_lt_zero _)⟩
    · obtain ⟨j, h1, h2⟩ := first_at (l := r) ((List.mem_cons.mp h).resolve_left fun z => e z.symm)
      refine ⟨j + 1, h1, fun m y hm hy => ?_⟩
      cases m with
      | zero =>
        have : a = y := Option.some.inj hy
        rw [← this]
        exact e
      | succ m => exact h2 m y (by omega) hy
theorem casesM_zero : ∀ (ws : List Int) (p : Int), (∀ w ∈ ws, w = 0) → ws.foldl (fun p w => p * (w + 1)) p = p
  | [], _, _ => rfl
  | a :: r, p, h => by
    have e : a = 0 := h a List.mem_cons_self
    subst e
    show r.foldl (fun p w => p * (w + 1)) (p * (0 + 1)) = p
    rw [casesM_zero r _ fun w hw => h w (List.mem_cons_of_mem _ hw)]
    omega
theorem sum_nonneg : ∀ {ws : List Int}, (∀ w ∈ ws, 0 ≤ w) → 0 ≤ ws.sum
  | [], _ => by decide
  | a :: r, h => by
    have h1 := h a List.mem_cons_self
    have h2 := sum_nonneg (ws := r) fun w hw => h w (List.mem_cons_of_mem _ hw)
    rw [List.sum_cons]
    omega
theorem sum_get : ∀ {ws : List Int} {j : Nat} {x : Int}, (∀ w ∈ ws, 0 ≤ w) → ws[j]? = some x → x ≤ ws.sum
  | [], j, x, _, h => by simp at h
  | a :: r, 0, x, hh, h => by
    have e : a = x := Option.some.inj h
    have := sum_nonneg (ws := r) fun w hw => hh w (List.mem_cons_of_mem _ hw)
    rw [List.sum_cons]
    omega
  | a :: r, j + 1, x, hh, h => by
    have h1 := hh a List.mem_cons_self
    have h2 := sum_get (ws := r) (j := j) (x := x) (fun w hw => hh w (List.mem_cons_of_mem _ hw)) h
    rw [List.sum_cons]
    omega
def Small (ws : List Int) : Prop := ∀ w ∈ ws, 0 ≤ w ∧ w ≤ 9
theorem Small.app {ws : List Int} {n : Int} (h : Small ws) (h1 : 0 ≤ n) (h2 : n ≤ 9) : Small (ws ++ [n]) := fun w hw => by
  rcases List.mem_append.mp hw with z | z
  · exact h w z
  · rw [List.mem_singleton.mp z]
    exact ⟨h1, h2⟩
theorem Small.big {ws : List Int} (h : Small ws) : ∀ w ∈ ws, -1000000 ≤ w ∧ w ≤ 1000000 := fun w hw => by
  have := h w hw
  omega
/-! ### lesser wants, in order -/
/-- 0, 1, .. n (none below nought) -/
def upto (n : Int) : List Int := (List.range (n + 1).toNat).map fun (i : Nat) => (i : Int)
def lesserF : List Int → List (List Int)
  | [] => [[]]
  | n :: w => (upto n).flatMap fun a => (lesserF w).map (a :: ·)
theorem lesserF_snoc : ∀ (w : List Int) (n : Int), lesserF (w ++ [n]) = (lesserF w).flatMap fun s => (upto n).map fun l => s ++ [l]
  | [], n => by
    show (upto n).flatMap (fun a => [[a]]) = _
    simp only [lesserF, List.flatMap_cons, List.flatMap_nil, List.append_nil, List.nil_append]
    induction upto n with
    | nil => rfl
    | cons x r ih => rw [List.flatMap_cons, List.map_cons, ih]; rfl
  | m :: w, n => by
    show (upto m).flatMap (fun a => (lesserF (w ++ [n])).map (a :: ·)) = ((upto m).flatMap fun a => (lesserF w).map (a :: ·)).flatMap _
    rw [lesserF_snoc w n, List.flatMap_assoc]
    congr 1
    funext a
    rw [List.map_flatMap, List.flatMap_map]
    congr 1
    funext s
    rw [List.map_map]
    rfl
theorem upto_length {n : Int} : (upto n).length = (n + 1).toNat := by
  unfold upto
  rw [List.length_map, List.length_range]
theorem upto_get {n : Int} {i : Nat} (h : i < (n + 1).toNat) : (upto n)[i]? = some (i : Int) := by
  unfold upto
  rw [List.getElem?_map, List.getElem?_range h]
  rfl
theorem flatMap_const_length {α β : Type} (l : List α) (f : α → List β) (c : Nat) (h : ∀ a ∈ l, (f a).length = c) : (l.flatMap f).length = l.length * c := by
  induction l with
  | nil => simp
  | cons a r ih =>
    rw [List.flatMap_cons, List.length_append, h a List.mem_cons_self, ih fun b hb => h b (List.mem_cons_of_mem _ hb), List.length_cons, Nat.add_mul]
    omega
theorem lesserF_length_cons (n : Int) (w : List Int) : (lesserF (n :: w)).length = (n + 1).toNat * (lesserF w).length := by
  show ((upto n).flatMap fun a => (lesserF w).map (a :: ·)).length = _
  rw [flatMap_const_length _ _ (lesserF w).length (fun a _ => List.length_map _), upto_length]
theorem cases_foldl : ∀ (w : List Int) (p : Int), (∀ x ∈ w, 0 ≤ x) → w.foldl (fun p w => p * (w + 1)) p = p * ((lesserF w).length : Int)
  | [], p, _ => by
    show p = p * ((1 : Nat) : Int)
    omega
  | n :: w, p, h => by
    have hn := h n List.mem_cons_self
    show w.foldl (fun p w => p * (w + 1)) (p * (n + 1)) = _
    rw [cases_foldl w _ fun x hx => h x (List.mem_cons_of_mem _ hx), lesserF_length_cons, Int.natCast_mul, Int.toNat_of_nonneg (by omega), Int.mul_assoc]
theorem casesM_lesser {w : List Int} (h : ∀ x ∈ w, 0 ≤ x) : casesM w = ((lesserF w).length : Int) := by
  unfold casesM
  rw [cases_foldl w 1 h]
  omega
/-- the next one, by the last place that is less -/
def nextF : List Int → List Int → Option (List Int)
  | a :: r, b :: w => match nextF r w with
    | some r' => some (a :: r')
    | none => if a = b then none else some ((a + 1) :: List.replicate r.length 0)
  | _, _ => none
theorem nextF_self : ∀ w : List Int, nextF w w = none
  | [] => rfl
  | a :: w => by
    unfold nextF
    rw [nextF_self w]
    simp
theorem nextF_at : ∀ (l l' r : List Int) (a b : Int), l.length = l'.length → a ≠ b → nextF (l ++ a :: r) (l' ++ b :: r) = some (l ++ (a + 1) :: List.replicate r.length 0)
  | [], [], r, a, b, _, h => by
    show nextF (a :: r) (b :: r) = some ((a + 1) :: List.replicate r.length 0)
    unfold nextF
    rw [nextF_self r]
    simp [h]
  | x :: l, y :: l', r, a, b, hl, h => by
    show nextF (x :: (l ++ a :: r)) (y :: (l' ++ b :: r)) = _
    unfold nextF
    rw [nextF_at l l' r a b (by simpa using hl) h]
    rfl
/-- what a row of lists is behind another -/
inductive Chain (w : List Int) : List (List Int) → Prop
  | one {r : List Int} (h : nextF r w = none) : Chain w [r]
  | cons {r s : List Int} {l : List (List Int)} (h : nextF r w = some s) (t : Chain w (s :: l)) : Chain w (r :: s :: l)
theorem Chain.map {w : List Int} {a n : Int} : ∀ {l : List (List Int)} {r : List Int}, Chain w (r :: l) → ∀ {rest : List (List Int)}, (a = n ∧ rest = [] ∨ a ≠ n ∧ ∃ z m, rest = z :: m ∧ z = (a + 1) :: List.replicate w.length 0 ∧ Chain (n :: w) (z :: m)) → (∀ s ∈ r :: l, s.length = w.length) →
    Chain (n :: w) (((r :: l).map (a :: ·)) ++ rest)
  | [], r, .one h, rest, hr, hlen => by
    have hrl := hlen r List.mem_cons_self
    rcases hr with ⟨e, rfl⟩ | ⟨e, z, m, rfl, ez, c⟩
    · refine .one ?_
      show nextF (a :: r) (n :: w) = none
      unfold nextF
      rw [h]
      simp [e]
    · refine .cons ?_ c
      show nextF (a :: r) (n :: w) = some z
      unfold nextF
      rw [h]
      simp [e, ez, hrl]
  | s :: l, r, .cons h t, rest, hr, hlen => by
    refine .cons ?_ (Chain.map t hr fun x hx => hlen x (List.mem_cons_of_mem _ hx))
    show nextF (a :: r) (n :: w) = some (a :: s)
    unfold nextF
    rw [h]
theorem lesserF_len : ∀ {w r : List Int}, r ∈ lesserF w → r.length = w.length
  | [], r, h => by
    rw [List.mem_singleton.mp h]
  | n :: w, r, h => by
    obtain ⟨a, _, h2⟩ := List.mem_flatMap.mp h
    obtain ⟨s, h3, rfl⟩ := List.mem_map.mp h2
    rw [List.length_cons, List.length_cons, lesserF_len h3]
/-- the tail of the order: from first number k on, d more -/
theorem chain_from {n : Int} {w : List Int} {l : List (List Int)} (hl : lesserF w = List.replicate w.length 0 :: l) (c : Chain w (lesserF w)) : ∀ (d k : Nat), ((k + d : Nat) : Int) = n →
    ∃ z m, ((List.range (d + 1)).map fun (i : Nat) => ((k + i : Nat) : Int)).flatMap (fun a => (lesserF w).map (a :: ·)) = z :: m ∧ z = (k : Int) :: List.replicate w.length 0 ∧ Chain (n :: w) (z :: m)
  | 0, k, e => by
    have c' := c
    rw [hl] at c'
    have q := Chain.map (a := (k : Int)) (n := n) c' (rest := []) (.inl ⟨by omega, rfl⟩) (fun s hs => lesserF_len (by rw [hl]; exact hs))
    refine ⟨(k : Int) :: List.replicate w.length 0, l.map ((k : Int) :: ·), ?_, rfl, ?_⟩
    · simp [hl]
    · simpa using q
  | d + 1, k, e => by
    obtain ⟨z, m, h1, h2, h3⟩ := chain_from (n := n) hl c d (k + 1) (by omega)
    have c' := c
    rw [hl] at c'
    have q := Chain.map (a := (k : Int)) (n := n) c' (rest := z :: m) (.inr ⟨by omega, z, m, rfl, by rw [h2]; rfl, h3⟩) (fun s hs => lesserF_len (by rw [hl]; exact hs))
    refine ⟨(k : Int) :: List.replicate w.length 0, l.map ((k : Int) :: ·) ++ (z :: m), ?_, rfl, ?_⟩
    · rw [List.range_succ_eq_map, List.map_cons, List.flatMap_cons, List.map_map]
      have e2 : ((fun (i : Nat) => ((k + i : Nat) : Int)) ∘ Nat.succ) = fun (i : Nat) => ((k + 1 + i : Nat) : Int) := by
        funext i
        show ((k + (i + 1) : Nat) : Int) = _
        congr 1
        omega
      rw [e2, h1, hl]
      rfl
    · simpa using q
theorem lesserF_chain : ∀ {w : List Int}, (∀ x ∈ w, 0 ≤ x) → Chain w (lesserF w) ∧ ∃ l, lesserF w = List.replicate w.length 0 :: l
  | [], _ => ⟨.one rfl, [], rfl⟩
  | n :: w, h => by
    have hn := h n List.mem_cons_self
    obtain ⟨c, l, hl⟩ := lesserF_chain (w := w) fun x hx => h x (List.mem_cons_of_mem _ hx)
    obtain ⟨z, m, h1, h2, h3⟩ := chain_from (n := n) hl c n.toNat 0 (by omega)
    have e : lesserF (n :: w) = z :: m := by
      rw [← h1]
      show (upto n).flatMap _ = _
      unfold upto
      rw [show (n + 1).toNat = n.toNat + 1 by omega]
      congr 2
      funext i
      congr 1
      omega
    rw [e]
    exact ⟨h3, m, by rw [h2]; rfl⟩
theorem Chain.at {w : List Int} : ∀ {l : List (List Int)} {i : Nat} {r : List Int}, Chain w l → l[i]? = some r → nextF r w = l[i + 1]?
  | _, 0, r, .one h, e => by
    cases Option.some.inj e
    exact h
  | _, i + 1, r, .one h, e => by simp at e
  | _, 0, r, .cons h t, e => by
    cases Option.some.inj e
    exact h
  | _, i + 1, r, .cons h t, e => by
    have q := Chain.at (i := i) (r := r) t (by simpa using e)
    simpa using q
/-! ### lesser -/
abbrev s_lesser : Stmt := topS 22
abbrev N_lesser : List Str := ["want", "begun", "number", "start", "less"]
theorem sc_lesser : FnScope N_lesser ["want"] (defScope s_lesser) := ⟨rfl, rfl, rfl, by decide +kernel, rfl, by decide +kernel, by decide +kernel⟩

/-- at D stands a list of new lists, one for each of rs -/
def Made (H1 : Hp) (D : Addr) (H' : Hp) (rs : List (List Int)) : Prop := ∃ bs : List Addr, H' D = some (.lst (bs.map V.ref)) ∧ bs.length = rs.length ∧ bs.Nodup ∧ ∀ (i : Nat) b r, bs[i]? = some b → rs[i]? = some r → H1 b = none ∧ b ≠ D ∧ H' b = some (LI r)
theorem Made.snoc {H1 H' H2 : Hp} {D p : Addr} {rs : List (List Int)} {r : List Int} (h : Made H1 D H' rs) (s1 : Same H1 H') (s2 : Same H' H2) (np : H' p = none) (hp : H2 p = some (LI r)) :
    ∃ acc, H2 D = some (.lst acc) ∧ acc.length = rs.length ∧ Made H1 D (upd H2 D (.lst (acc ++ [.ref p]))) (rs ++ [r]) := by
  obtain ⟨bs, hD, hl, nd, hr⟩ := h
  have npD : p ≠ D := (ne_of_none hD np).symm
  refine ⟨bs.map V.ref, s2 _ _ hD, by rw [List.length_map]; exact hl, bs ++ [p], ?_, ?_, ?_, fun i b r' hb hr' => ?_⟩
  · rw [upd_same, List.map_append]
    rfl
  · rw [List.length_append, List.length_append, hl]
    rfl
  · refine List.nodup_append.mpr ⟨nd, by simp, fun x hx y hy => ?_⟩
    rw [List.mem_singleton.mp hy]
    obtain ⟨i, hi, e⟩ := List.getElem_of_mem hx
    have h1 : bs[i]? = some x := by rw [List.getElem?_eq_getElem hi, e]
    obtain ⟨r0, h2⟩ : ∃ r0, rs[i]? = some r0 := ⟨rs[i]'(by omega), List.getElem?_eq_getElem (by omega)⟩
    exact ne_of_none (hr i x r0 h1 h2).2.2 np
  · rcases Nat.lt_or_ge i bs.length with hi | hi
    · rw [List.getElem?_append_left hi] at hb
      rw [List.getElem?_append_left (by omega)] at hr'
      obtain ⟨t1, t2, t3⟩ := hr i b r' hb hr'
      exact ⟨t1, t2, by rw [upd_ne t2]; exact s2 _ _ t3⟩
    · rw [List.getElem?_append_right hi] at hb
      rw [List.getElem?_append_right (by omega)] at hr'
      have e0 : i - bs.length = 0 := by
        cases e : i - bs.length with
        | zero => rfl
        | succ n => rw [e] at hb; simp at hb
      rw [← hl] at hr'
      rw [e0] at hb hr'
      cases Option.some.inj hb
      cases Option.some.inj hr'
      exact ⟨s1.free np, npD, by rw [upd_ne npD]; exact hp⟩
theorem lesserF_le : ∀ {w : List Int}, Small w → (lesserF w).length ≤ 10 ^ w.length
  | [], _ => by decide
  | n :: w, h => by
    have hn := h n List.mem_cons_self
    have ih := lesserF_le (w := w) fun x hx => h x (List.mem_cons_of_mem _ hx)
    rw [lesserF_length_cons, List.length_cons, Nat.pow_succ, Nat.mul_comm]
    exact Nat.mul_le_mul ih (by omega)
theorem lesserF_le4 {w : List Int} (h : Small w) (h4 : w.length ≤ 4) : (lesserF w).length ≤ 10000 :=
  Nat.le_trans (lesserF_le h) (Nat.le_trans (Nat.pow_le_pow_right (by decide) h4) (by decide))
def sp_lesser (K : PySem.W.Frag) : Sp := fun vs H Q _ => ∃ (a : Addr) (ws : List Int), vs = [.ref a] ∧ SqL K H a (ws.map V.int) ∧ ws.length ≤ 4 ∧ Small ws ∧
  ∀ H' p, Same H H' → H p = none → Made H p H' (lesserF ws) → Q (.ref p) H'
section
variable {P : Program} {w : World} {K : PySem.W.Frag} {mg : Str → Option Value} {base : Heap}
theorem ok_lesser {f : Addr} {fd : FuncData} {k : Nat} (M : Names mg) (D : Def K mg "lesser" s_lesser ["want"] f fd) : FnOk P w K mg base CX0 (k + 1) f fd ["want"] (sp_lesser K) := by
  refine D.F.ok sc_lesser (fun vs H Q E h => ?_) (fun cdv A outer s H vs Q E hr h => ?_)
  · obtain ⟨a, ws, rfl, _⟩ := h
    rfl
  · obtain ⟨a, ws, rfl, ha, h4, sm, q⟩ := h
    refine ⟨_, (pss_cons (ps_set (i := 1) sc_lesser.nd rfl (Or.inl rfl) (pe_lst (pa_cons (pe_lst pa_nil) pa_nil)))
  (pss_cons (ps_for PassesOwn.never rfl (pi_list (pv 0)) (pg_name (i := 2) sc_lesser.nd rfl (Or.inr rfl))
   (pss_one (ps_setLc2 (i := 1) (own := [("start", 3), ("less", 4)]) (vs1 := [4]) (by rfl) sc_lesser.nd rfl rfl (sw_true rfl rfl rfl (by decide +kernel)) (pi_list (pv 1)) (blkOk_by (own := [("start", 3), ("less", 4)]) (N := N_lesser) (sc := defScope s_lesser) (by decide +kernel)) (by decide) (fun _ _ _ _ _ => (pg_name (i := 3) sc_lesser.nd rfl (Or.inl rfl))) (fun _ _ _ _ _ => pts_nil) (fun _ _ _ _ _ => (pi_range1 (by rfl) M.range (pa_cons (pe_op op_add (pv 2) pe_int) pa_nil))) (fun _ _ _ _ _ => (pg_name (i := 4) sc_lesser.nd rfl (Or.inl rfl))) (fun _ _ _ _ _ => pts_nil) (fun _ _ _ _ _ => (pe_op op_cat (pv 3) (pe_lst (pa_cons (pv 4) pa_nil)))))))
  (pss_one (ps_ret (pv 1))))), ?_⟩
    refine ⟨Nat.zero_le _, fun z nz => ⟨by show 1 ≤ sizeLine; decide, fun b nb => ?_⟩⟩
    have nzb : z ≠ b := ne_of_none upd_same nb
    have s1 : Same H (upd H z (.lst [])) := same_upd nz
    have s2 : Same H (upd (upd H z (.lst [])) b (.lst [.ref z])) := s1.trans (same_upd nb)
    refine ⟨_, rfl, a, rfl, ⟨_, s2.seq ha⟩, for_list (xs := ws.map V.int) (fun i σ H' => ∃ p y2, σ = [some (.ref a), some (.ref p), y2, none, none] ∧ Same H H' ∧ H p = none ∧ Made H p H' (lesserF (ws.take i))) ⟨b, none, rfl, s2, s1.free nb, [z], upd_same, rfl, by simp, fun i b' r hb hr => ?_⟩ (fun i σ H' _ hp => ?_) (fun i x σ H1 hx hp => ?_) (fun σ H' hp => ?_)⟩
    · cases i with
      | succ i => simp at hb
      | zero =>
        cases Option.some.inj hb
        cases Option.some.inj hr
        exact ⟨nz, nzb, by rw [upd_ne nzb]; exact upd_same⟩
    · obtain ⟨p, y2, _, s3, _⟩ := hp
      exact s3.seq ha
    · obtain ⟨p, y2, rfl, s3, np, as, hp, hal, nd, hrows⟩ := hp
      obtain ⟨n, hn, rfl⟩ := of_get_ints hx
      have bn := sm n (List.mem_of_getElem? hn)
      have etk := take_succ_at hn
      have smk : Small (ws.take (i + 1)) := fun x hx => sm x (List.mem_of_mem_take hx)
      have big : (lesserF (ws.take (i + 1))).length ≤ 10000 := lesserF_le4 smk (by rw [List.length_take]; omega)
      rw [etk, lesserF_snoc] at big
      generalize hrs : lesserF (ws.take i) = rs at hal hrows big
      have blen : ∀ j, ((rs.take j).flatMap fun s => (upto n).map fun l => s ++ [l]).length = min j rs.length * (n + 1).toNat := fun j => by
        rw [flatMap_const_length _ _ (n + 1).toNat (fun a _ => by rw [List.length_map, upto_length]), List.length_take]
      rw [flatMap_const_length _ _ (n + 1).toNat (fun a _ => by rw [List.length_map, upto_length])] at big
      refine ⟨_, rfl, p, rfl, ⟨_, SqL.of hp⟩, fun L nL => ?_⟩
      have nLH : H L = none := s3.free nL
      refine ⟨fun j m H' => m = as.length - j ∧ j ≤ as.length ∧ Same H1 H' ∧ Made H1 L H' ((rs.take j).flatMap fun s => (upto n).map fun l => s ++ [l]), ⟨_, rfl, Nat.zero_le _, same_upd nL, [], upd_same, rfl, by simp, fun j b' r hb => by simp at hb⟩, fun j m H2 hW => ?_⟩
      obtain ⟨rfl, hj, s4, md⟩ := hW
      have hA : SqL K H2 p (as.map V.ref) := SqL.of (s4 _ _ hp)
      by_cases hjl : j < as.length
      · obtain ⟨c, hc⟩ : ∃ c, as[j]? = some c := ⟨as[j], List.getElem?_eq_getElem hjl⟩
        obtain ⟨r, hr⟩ : ∃ r, rs[j]? = some r := ⟨rs[j]'(by omega), List.getElem?_eq_getElem (by omega)⟩
        have gc : (as.map V.ref)[j]? = some (.ref c) := by rw [List.getElem?_map, hc]; rfl
        obtain ⟨nc, ncp, hcr⟩ := hrows j c r hc hr
        have hc2 := s4 _ _ hcr
        refine .inr ⟨⟨_, _, hA, gc⟩, fun H' => Same H1 H' ∧ Made H1 L H' ((rs.take (j + 1)).flatMap fun s => (upto n).map fun l => s ++ [l]), fun H' hN => ⟨_, by omega, rfl, by omega, hN⟩, fun x H3 hy => ?_⟩
        obtain ⟨rfl, fy⟩ := hy
        have ex : x = .ref c := Option.some.inj ((fy _ hA).symm.trans gc)
        subst ex
        refine ⟨rfl, _, rfl, _, _, rfl, rfl, _, rfl, by omega, by omega, fun t m' H' => m' = (n + 1).toNat - t ∧ t ≤ (n + 1).toNat ∧ Same H1 H' ∧ H' c = some (LI r) ∧ Made H1 L H' (((rs.take j).flatMap fun s => (upto n).map fun l => s ++ [l]) ++ ((upto n).take t).map fun l => r ++ [l]), ⟨_, rfl, Nat.zero_le _, s4, hc2, ?_⟩, fun t m' H4 hW1 => ?_⟩
        · rw [List.take_zero, List.map_nil, List.append_nil]
          exact md
        · obtain ⟨rfl, ht, s5, hc5, md5⟩ := hW1
          by_cases htl : t < (n + 1).toNat
          · refine .inr ⟨htl, fun H' => Same H1 H' ∧ H' c = some (LI r) ∧ Made H1 L H' (((rs.take j).flatMap fun s => (upto n).map fun l => s ++ [l]) ++ ((upto n).take (t + 1)).map fun l => r ++ [l]), fun H' hN => ⟨_, by omega, rfl, htl, hN⟩, fun x H5 hy => ?_⟩
            obtain ⟨rfl, rfl⟩ := hy
            refine ⟨rfl, _, rfl, _, rfl, by show 1 ≤ sizeLine; decide, fun u nu => ?_⟩
            have ncu : c ≠ u := ne_of_none hc5 nu
            have hc6 : upd H5 u (.lst [.int (0 + (t : Int))]) c = some (LI r) := by rw [upd_ne ncu]; exact hc5
            have hrl : r.length ≤ 4 := by
              have z := lesserF_len (w := ws.take i) (r := r) (by rw [hrs]; exact List.mem_of_getElem? hr)
              rw [z, List.length_take]
              omega
            refine ⟨c, u, _, _, rfl, rfl, hc6, upd_same, szL (by rw [List.length_map]; show r.length + 1 ≤ _; omega), fun v nv => ?_⟩
            have s6 : Same H5 (upd (upd H5 u (.lst [.int (0 + (t : Int))])) v (.lst (r.map V.int ++ [.int (0 + (t : Int))]))) := (same_upd nu).trans (same_upd nv)
            have nv5 : H5 v = none := (same_upd nu).free nv
            obtain ⟨acc, ha1, ha2, ha3⟩ := md5.snoc (r := r ++ [(0 + (t : Int))]) s5 s6 nv5 (by rw [upd_same, li_app])
            refine ⟨acc, ha1, szL' ?_, ?_, ?_, ?_⟩
            · rw [ha2, List.length_append, blen, List.length_map, List.length_take, upto_length]
              have m1 : min j rs.length = j := by omega
              have m2 : min t (n + 1).toNat ≤ 10 := by omega
              have m3 : j * (n + 1).toNat ≤ rs.length * (n + 1).toNat := Nat.mul_le_mul_right _ (by omega)
              rw [m1]
              omega
            · refine sm_new (s5.trans s6) nL
            · have ncL : c ≠ L := ne_of_none hcr nL
              rw [upd_ne ncL]
              exact s6 _ _ hc5
            · have e2 : (upto n).take (t + 1) = (upto n).take t ++ [(0 + (t : Int))] := take_succ_at (by rw [upto_get htl, Int.zero_add])
              rw [e2, List.map_append, ← List.append_assoc]
              exact ha3
          · have et : t = (n + 1).toNat := by omega
            refine .inl ⟨by show (n + 1).toNat ≤ t; omega, s5, ?_⟩
            have e2 : (upto n).take t = upto n := List.take_of_length_le (by rw [upto_length]; omega)
            rw [e2] at md5
            rw [take_succ_at hr, List.flatMap_append]
            simpa using md5
      · have ej : j = as.length := by omega
        refine .inl ⟨⟨_, hA, by rw [List.length_map]; omega⟩, ?_⟩
        rw [List.take_of_length_le (by omega)] at md
        refine ⟨L, _, rfl, s3.trans s4, nLH, ?_⟩
        rw [etk, lesserF_snoc, hrs]
        obtain ⟨bs, m1, m2, m3, m4⟩ := md
        exact ⟨bs, m1, m2, m3, fun i b r hb hr => ⟨s3.free (m4 i b r hb hr).1, (m4 i b r hb hr).2⟩⟩
    · obtain ⟨p, y2, rfl, s3, np, md⟩ := hp
      rw [List.length_map, List.take_length] at md
      exact ⟨_, rfl, q H' p s3 np md⟩
end
/-! ### tables through calls -/
theorem tabG_same {H H' : Hp} {T : Addr} (s : Same H H') (h : GxR.TabG H T) : GxR.TabG H' T := by
  obtain ⟨ps, h1, h2⟩ := h
  exact ⟨ps, s _ _ h1, h2⟩
theorem tabG_but {H H' : Hp} {T d : Addr} {xs : List V} (s : SameBut d H H') (hd : H d = some (.lst xs)) (h : GxR.TabG H T) : GxR.TabG H' T := by
  obtain ⟨ps, h1, h2⟩ := h
  exact ⟨ps, s _ _ (ne_of h1 hd (fun z => nomatch z)) h1, h2⟩
theorem tabbed_lst {H H' : Hp} {T a : Addr} {xs : List V} (t : GxR.Tabbed T H H') (hT : GxR.TabG H T) (h : H a = some (.lst xs)) : H' a = some (.lst xs) := by
  obtain ⟨ps, h1, h2⟩ := hT
  rw [t.2 a (ne_of h h1 (fun z => nomatch z))]
  exact h
theorem draw4 (x : Int) : ∃ m : Nat, 1 ≤ m ∧ m ≤ 4 ∧ 1 + x % 4 = (m : Int) := ⟨(1 + x % 4).toNat, by omega, by omega, by omega⟩
/-! ### a heap without one address; what is kept apart from tables -/
def cutH (d : Addr) (H : Hp) : Hp := fun b => if b = d then none else H b
section
variable {d : Addr} {H H' : Hp}
theorem cut_at {b : Addr} (h : b ≠ d) : cutH d H b = H b := if_neg h
theorem cut_put {b : Addr} {o : HO} (h : b ≠ d) (e : H b = some o) : cutH d H b = some o := by rw [cut_at h]; exact e
theorem cut_some {b : Addr} {o : HO} (h : cutH d H b = some o) : b ≠ d ∧ H b = some o := by
  unfold cutH at h
  by_cases e : b = d
  · rw [if_pos e] at h
    cases h
  · rw [if_neg e] at h
    exact ⟨e, h⟩
theorem cut_same (s : SameBut d H H') : Same (cutH d H) (cutH d H') := fun b o h => by
  obtain ⟨n, e⟩ := cut_some h
  exact cut_put n (s b o n e)
theorem cut_le : Same (cutH d H) H := fun _ _ h => (cut_some h).2
theorem cut_upd {u : Addr} {o : HO} (h : u ≠ d) : cutH d (upd H u o) = upd (cutH d H) u o := by
  funext b
  by_cases e : b = d
  · rw [e, upd_ne (fun z => h z.symm)]
    unfold cutH
    rw [if_pos rfl, if_pos rfl]
  · rw [cut_at e]
    by_cases e2 : b = u
    · rw [e2, upd_same, upd_same]
    · rw [upd_ne e2, upd_ne e2, cut_at e]
/-- all but tables stay -/
def Ke (H H' : Hp) : Prop := ∀ b o, H b = some o → (∀ ps, o ≠ .tbl ps) → H' b = some o
theorem Ke.refl (H : Hp) : Ke H H := fun _ _ e _ => e
theorem Ke.trans {H1 H2 : Hp} (a : Ke H H1) (b : Ke H1 H2) : Ke H H2 := fun c o e n => b c o (a c o e n) n
theorem Ke.of (s : Same H H') : Ke H H' := fun b o e _ => s b o e
theorem Ke.cut (a : Ke H H') : Ke (cutH d H) (cutH d H') := fun b o e n => by
  obtain ⟨n1, e1⟩ := cut_some e
  exact cut_put n1 (a b o e1 n)
theorem Ke.lst (a : Ke H H') {p : Addr} {xs : List V} (h : H p = some (.lst xs)) : H' p = some (.lst xs) := a _ _ h fun _ z => nomatch z
theorem Ke.tup (a : Ke H H') {p : Addr} {xs : List V} (h : H p = some (.tup xs)) : H' p = some (.tup xs) := a _ _ h fun _ z => nomatch z
theorem Ext.ke {T : List Addr} (e : Ext T H H') : Ke H H' := e.ext
theorem tb_same {T : List Addr} (s : Same H H') (h : Tb T H) : Tb T H' := fun t ht => tabG_same s (h t ht)
theorem tb_but {T : List Addr} {xs : List V} (s : SameBut d H H') (hd : H d = some (.lst xs)) (h : Tb T H) : Tb T H' := fun t ht => tabG_but s hd (h t ht)
theorem TiersAt.ke (e : Ke H H') {a : Addr} {ts : List (Int × Int)} (h : TiersAt H a ts) : TiersAt H' a ts := by
  obtain ⟨us, h1, h2, h3⟩ := h
  exact ⟨us, e.lst h1, h2, fun i u t a b => e.tup (h3 i u t a b)⟩
theorem OfrAt.ke (e : Ke H H') {a : Addr} : ∀ {o : Ofr}, OfrAt H a o → OfrAt H' a o
  | .pack c p, ⟨b, h1, h2⟩ => ⟨b, e.tup h1, e.lst h2⟩
  | .many c ts, ⟨b, t, h1, h2, h3⟩ => ⟨b, t, e.tup h1, e.lst h2, h3.ke e⟩
  | .add c p k, ⟨b, h1, h2⟩ => ⟨b, e.tup h1, e.lst h2⟩
theorem ShopAt.ke (e : Ke H H') {a : Addr} {os : List Ofr} (h : ShopAt H a os) : ShopAt H' a os := by
  obtain ⟨vs, h1, h2, h3⟩ := h
  exact ⟨vs, e.lst h1, h2, fun i v o a b => (h3 i v o a b).ke e⟩
theorem TiersAt.same (s : Same H H') {a : Addr} {ts : List (Int × Int)} (h : TiersAt H a ts) : TiersAt H' a ts := h.ke (.of s)
/-- a tier more -/
theorem TiersAt.push {F u : Addr} {ts : List (Int × Int)} {t : Int × Int} (h : TiersAt H F ts) (nu : H u = none) : ∃ xs, H F = some (.lst xs) ∧ xs.length = ts.length ∧ TiersAt (upd (upd H u (.tup [.int t.1, .int t.2])) F (.lst (xs ++ [.ref u]))) F (ts ++ [t]) := by
  obtain ⟨us, h1, h2, h3⟩ := h
  refine ⟨_, h1, by rw [List.length_map]; exact h2, us ++ [u], ?_, by rw [List.length_append, List.length_append, h2]; rfl, fun i v t' hv ht => ?_⟩
  · rw [upd_same, List.map_append]
    rfl
  · by_cases z : i < us.length
    · rw [List.getElem?_append_left z] at hv
      rw [List.getElem?_append_left (by omega)] at ht
      have e := h3 i v t' hv ht
      rw [upd_ne (ne_of e h1 (fun z => nomatch z)), upd_ne (ne_of_none e nu)]
      exact e
    · rw [List.getElem?_append_right (by omega)] at hv
      rw [List.getElem?_append_right (by omega)] at ht
      rw [← h2] at ht
      have ei : i - us.length = 0 := by
        rcases Nat.eq_zero_or_pos (i - us.length) with z | z
        · exact z
        · rw [List.getElem?_eq_none (by rw [List.length_singleton]; omega)] at hv
          cases hv
      rw [ei] at hv ht
      cases Option.some.inj hv
      cases Option.some.inj ht
      rw [upd_ne (fun z => by rw [z, h1] at nu; cases nu), upd_same]
end
/-! ### offers within bounds -/
def PriceT (ts : List (Int × Int)) : Prop := ∀ t ∈ ts, 0 ≤ t.2 ∧ t.2 < 1000000000000
theorem cut_off {d : Addr} {H : Hp} {o : HO} : cutH d (upd H d o) = cutH d H := by
  funext b
  by_cases e : b = d
  · unfold cutH
    rw [if_pos e, if_pos e]
  · rw [cut_at e, cut_at e, upd_ne e]
theorem cut_mono {d : Addr} {H H' : Hp} (s : Same H H') : Same (cutH d H) (cutH d H') := cut_same (.of s)
theorem TiersAt.cut {H : Hp} {S t : Addr} {ts : List (Int × Int)} {xs : List V} (h : TiersAt H t ts) (n : t ≠ S) (hS : H S = some (.lst xs)) : TiersAt (cutH S H) t ts := by
  obtain ⟨us, h1, h2, h3⟩ := h
  refine ⟨us, cut_put n h1, h2, fun i u t a b => ?_⟩
  have e := h3 i u t a b
  exact cut_put (ne_of e hS (fun z => nomatch z)) e
def FitO (m : Nat) : Ofr → Prop
  | .pack c p => c.length = m ∧ Small c ∧ 0 ≤ p ∧ p < 1000000000000
  | .many c ts => c.length = m ∧ Small c ∧ PriceT ts
  | .add c p _ => c.length = m ∧ Small c ∧ 0 ≤ p ∧ p < 1000000000000
def FitS (m : Nat) (os : List Ofr) : Prop := ∀ o ∈ os, FitO m o
theorem FitO.cont {m : Nat} : ∀ {o : Ofr}, FitO m o → o.cont.length = m ∧ Small o.cont
  | .pack _ _, h => ⟨h.1, h.2.1⟩
  | .many _ _, h => ⟨h.1, h.2.1⟩
  | .add _ _ _, h => ⟨h.1, h.2.1⟩
theorem FitS.fit {m : Nat} {os : List Ofr} (hm : m ≤ 4) (h : FitS m os) : Fit os := fun o ho => by
  refine ⟨?_, fun c p k e => ?_⟩
  · have := (h o ho).cont.1
    omega
  · subst e
    have := h _ ho
    exact ⟨by have := this.2.2.1; omega, by have := this.2.2.2; omega⟩
theorem FitS.push {m : Nat} {os : List Ofr} {o : Ofr} (h : FitS m os) (ho : FitO m o) : FitS m (os ++ [o]) := fun x hx => by
  rcases List.mem_append.mp hx with z | z
  · exact h x z
  · rw [List.mem_singleton.mp z]
    exact ho
theorem GoodO.mono {os : List Ofr} {i : Nat} {x : Ofr} : ∀ {o : Ofr}, GoodO os i o → GoodO (os ++ [x]) i o
  | .pack _ _, _ => True.intro
  | .many _ _, h => h
  | .add _ _ _, ⟨j, e, hj, c, p, h⟩ => ⟨j, e, hj, c, p, by rw [List.getElem?_append_left (List.getElem?_eq_some_iff.mp h).1]; exact h⟩
theorem Good.push {os : List Ofr} {o : Ofr} (h : Good os) (h8 : os.length < 8) (ho : GoodO os os.length o) : Good (os ++ [o]) := by
  refine ⟨by rw [List.length_append, List.length_singleton]; omega, fun i x hx => ?_⟩
  by_cases z : i < os.length
  · rw [List.getElem?_append_left z] at hx
    exact (h.2 i x hx).mono
  · have hi := (List.getElem?_eq_some_iff.mp hx).1
    rw [List.length_append, List.length_singleton] at hi
    have ei : i = os.length := by omega
    rw [List.getElem?_append_right (by omega), ei, Nat.sub_self] at hx
    cases Option.some.inj hx
    rw [ei]
    exact ho.mono
/-! ### lines as data -/
abbrev dInts (ns : List Int) : PyData := .list (ns.map PyData.int)
def dLine (l : Ln) : PyData := .tuple [.int l.p, .int l.c, dInts l.as]
abbrev dLines (ls : List Ln) : PyData := .list (ls.map dLine)
theorem LineAt.dp {K : PySem.W.Frag} {H : Hp} {a : Addr} {l : Ln} (h : LineAt H a l) : Dp K H (.ref a) (dLine l) := by
  obtain ⟨b, h1, h2⟩ := h
  exact .tup (SqT.of h1) (.cons (.int _) (.cons (.int _) (.cons (dp_ints (SqL.of h2)) .nil)))
theorem LineAt.same {H H' : Hp} (s : Same H H') {a : Addr} {l : Ln} (h : LineAt H a l) : LineAt H' a l := by
  obtain ⟨b, h1, h2⟩ := h
  exact ⟨b, s _ _ h1, s _ _ h2⟩
theorem LineAt.ke {H H' : Hp} (s : Ke H H') {a : Addr} {l : Ln} (h : LineAt H a l) : LineAt H' a l := by
  obtain ⟨b, h1, h2⟩ := h
  exact ⟨b, s.tup h1, s.lst h2⟩
theorem dp_lines {K : PySem.W.Frag} {H : Hp} : ∀ {as : List Addr} {ls : List Ln}, Al (LineAt H) as ls → DpAll K H (as.map V.ref) (ls.map dLine)
  | [], [], _ => .nil
  | [], _ :: _, h => h.elim
  | _ :: _, [], h => h.elim
  | _ :: _, _ :: _, h => .cons h.1.dp (dp_lines h.2)
theorem lay_line (l : Ln) : PyData.canLay0 (dLine l) = true := by
  have := lay_ints l.as
  simp [dLine, PyData.canLayAll0, PyData.canLay0, this]
theorem depth_line (l : Ln) : PyData.depth (dLine l) ≤ 2 := by
  have := depth_ints l.as
  simp only [dLine, PyData.depth, PyData.depthAll, this]
  decide
theorem lay_lines : ∀ ls : List Ln, PyData.canLayAll0 (ls.map dLine) = true
  | [] => by simp [PyData.canLayAll0]
  | l :: r => by
    have ih := lay_lines r
    have h1 := lay_line l
    simp [PyData.canLayAll0, ih, h1]
theorem depth_lines : ∀ ls : List Ln, PyData.depthAll (ls.map dLine) ≤ 2
  | [] => by simp [PyData.depthAll]
  | l :: r => by
    have ih := depth_lines r
    have h1 := depth_line l
    simp only [List.map_cons, PyData.depthAll]
    omega
theorem shaped_lines (ls : List Ln) : SeqAt.shaped (dLines ls) = true := by
  unfold SeqAt.shaped
  have h1 : PyData.canLay0 (dLines ls) = true := by
    simp only [PyData.canLay0]
    exact lay_lines ls
  have h2 : PyData.depth (dLines ls) ≤ 64 := by
    have := depth_lines ls
    simp only [PyData.depth]
    omega
  rw [h1, decide_eq_true h2]
  rfl
theorem shaped_line (l : Ln) : SeqAt.shaped (dLine l) = true := by
  unfold SeqAt.shaped
  have h2 : PyData.depth (dLine l) ≤ 64 := Nat.le_trans (depth_line l) (by decide)
  rw [lay_line l, decide_eq_true h2]
  rfl
theorem linesAtM_p {os : List Ofr} {i : Nat} {l : Ln} (h : l ∈ linesAtM os i) : l.p = (i : Int) := by
  unfold linesAtM at h
  split at h
  · obtain ⟨c, _, rfl⟩ := List.mem_map.mp h
    rfl
  · obtain ⟨c, _, rfl⟩ := List.mem_map.mp h
    rfl
  · cases h
theorem flat_one {α : Type} (X : List α) (p : Nat) : ∀ n : Nat, (List.range n).flatMap (fun i => if i = p then X else []) = if p < n then X else []
  | 0 => by simp
  | n + 1 => by
    rw [List.range_succ, List.flatMap_append, flat_one X p n, List.flatMap_singleton]
    by_cases h1 : p < n
    · rw [if_pos h1, if_neg (by omega), if_pos (by omega), List.append_nil]
    · rw [if_neg h1, List.nil_append]
      by_cases h2 : n = p
      · rw [if_pos h2, if_pos (by omega)]
      · rw [if_neg h2, if_neg (by omega)]
theorem lines_filter {os : List Ofr} {p : Nat} (h : p < os.length) : (linesM os).filter (fun l => decide (l.p = (p : Int))) = linesAtM os p := by
  unfold linesM
  rw [List.filter_flatMap]
  have e : ∀ i : Nat, (linesAtM os i).filter (fun l => decide (l.p = (p : Int))) = if i = p then linesAtM os p else [] := fun i => by
    by_cases z : i = p
    · rw [if_pos z, z, List.filter_eq_self]
      exact fun l hl => decide_eq_true (linesAtM_p hl)
    · rw [if_neg z, List.filter_eq_nil_iff]
      intro l hl
      have := linesAtM_p hl
      rw [decide_eq_true_eq]
      omega
  rw [show (fun i => (linesAtM os i).filter (fun l => decide (l.p = (p : Int)))) = fun i => if i = p then linesAtM os p else [] from funext e, flat_one, if_pos h]
/-! ### the tier of a count -/
def stepT (q : Int → Prop) [DecidablePred q] (ts : List (Int × Int)) (e : Int) : Int := ts.foldl (fun e t => if q t.1 then t.2 else e) e
theorem stepT_none {q : Int → Prop} [DecidablePred q] : ∀ {ts : List (Int × Int)} {e : Int}, (∀ t ∈ ts, ¬ q t.1) → stepT q ts e = e
  | [], _, _ => rfl
  | t :: r, e, h => by
    show stepT q r (if q t.1 then t.2 else e) = e
    rw [if_neg (h t List.mem_cons_self)]
    exact stepT_none fun t ht => h t (List.mem_cons_of_mem _ ht)
theorem stepT_split (c : Int) : ∀ (ts : List (Int × Int)) (e : Int), ts.Pairwise (fun a b => a.1 < b.1) → stepT (· = c) ts (stepT (· ≤ c - 1) ts e) = stepT (· ≤ c) ts e
  | [], _, _ => rfl
  | t :: r, e, h => by
    obtain ⟨h1, h2⟩ := List.pairwise_cons.mp h
    show stepT (· = c) r (if t.1 = c then t.2 else stepT (· ≤ c - 1) r (if t.1 ≤ c - 1 then t.2 else e)) = stepT (· ≤ c) r (if t.1 ≤ c then t.2 else e)
    by_cases z1 : t.1 ≤ c - 1
    · rw [if_pos z1, if_neg (by omega), if_pos (by omega)]
      exact stepT_split c r t.2 h2
    · rw [if_neg z1]
      by_cases z2 : t.1 = c
      · rw [if_pos z2, if_pos (by omega), stepT_none (q := (· = c)) fun x hx => by have := h1 x hx; omega, stepT_none (q := (· ≤ c)) fun x hx => by have := h1 x hx; omega]
      · rw [if_neg z2, if_neg (by omega)]
        exact stepT_split c r e h2
theorem pieceM_step (c : Int) : ∀ (ts : List (Int × Int)) (e : Int), (pieceL ts c).getLastD e = stepT (· ≤ c) ts e
  | [], _ => rfl
  | t :: r, e => by
    show _ = stepT (· ≤ c) r (if t.1 ≤ c then t.2 else e)
    rw [← pieceM_step c r]
    unfold pieceL
    by_cases z : t.1 ≤ c
    · rw [if_pos z, List.filter_cons_of_pos (p := fun t : Int × Int => decide (t.1 ≤ c)) (decide_eq_true z), List.map_cons, List.getLastD_cons]
    · rw [if_neg z, List.filter_cons_of_neg (by rw [decide_eq_true_eq]; exact z)]
theorem GoodT.pair {ts : List (Int × Int)} (h : GoodT ts) : ts.Pairwise (fun a b => a.1 < b.1) := by
  have step : ∀ (n i : Nat) (a b : Int × Int), ts[i]? = some a → ts[i + (n + 1)]? = some b → a.1 < b.1 := by
    intro n
    induction n with
    | zero => exact fun i a b ha hb => h.rise i a b ha hb
    | succ n ih =>
      intro i a b ha hb
      have hl := (List.getElem?_eq_some_iff.mp hb).1
      have g := List.getElem?_eq_getElem (show i + (n + 1) < ts.length by omega)
      have h1 := ih i a _ ha g
      have h2 := h.rise (i + (n + 1)) _ b g hb
      omega
  rw [List.pairwise_iff_getElem]
  intro i j hi hj hij
  have := step (j - i - 1) i ts[i] ts[j] (List.getElem?_eq_getElem hi) (by rw [show i + (j - i - 1 + 1) = j by omega]; exact List.getElem?_eq_getElem hj)
  exact this
theorem GoodT.ge1 {ts : List (Int × Int)} (h : GoodT ts) : ∀ t ∈ ts, 1 ≤ t.1 := fun t ht => by
  obtain ⟨i, hi, rfl⟩ := List.getElem_of_mem ht
  have e0 := h.one _ (List.getElem?_eq_getElem (show 0 < ts.length by omega))
  rcases Nat.eq_zero_or_pos i with z | z
  · subst z
    omega
  · have := List.pairwise_iff_getElem.mp h.pair 0 i (by omega) hi z
    omega
theorem pieceM_zero {ts : List (Int × Int)} (h : GoodT ts) : pieceM ts 0 = 0 := by
  unfold pieceM
  rw [pieceM_step]
  exact stepT_none fun t ht => by have := h.ge1 t ht; omega
theorem pieceM_succ {ts : List (Int × Int)} (h : GoodT ts) (c : Int) : stepT (· = c) ts (pieceM ts (c - 1)) = pieceM ts c := by
  unfold pieceM
  rw [pieceM_step, pieceM_step]
  exact stepT_split c ts 0 h.pair
theorem stepT_take {q : Int → Prop} [DecidablePred q] {ts : List (Int × Int)} {i : Nat} {t : Int × Int} {e : Int} (h : ts[i]? = some t) : stepT q (ts.take (i + 1)) e = if q t.1 then t.2 else stepT q (ts.take i) e := by
  unfold stepT
  rw [take_succ_at h, List.foldl_append]
  rfl
/-! ### shops made of offers -/
theorem ShopAt.of_al {H : Hp} {a : Addr} {vs : List Addr} {os : List Ofr} (h : H a = some (.lst (vs.map V.ref))) (al : Al (OfrAt H) vs os) : ShopAt H a os := by
  refine ⟨vs, h, al.len, fun i v o hv ho => ?_⟩
  obtain ⟨x, hx, r⟩ := al.get hv
  rw [ho] at hx
  cases Option.some.inj hx
  exact r
theorem TiersAt.of_al {H : Hp} {a : Addr} {us : List Addr} {ts : List (Int × Int)} (h : H a = some (.lst (us.map V.ref))) (al : Al (fun u (t : Int × Int) => H u = some (.tup [.int t.1, .int t.2])) us ts) : TiersAt H a ts := by
  refine ⟨us, h, al.len, fun i v o hv ho => ?_⟩
  obtain ⟨x, hx, r⟩ := al.get hv
  rw [ho] at hx
  cases Option.some.inj hx
  exact r
theorem ShopAt.al {H : Hp} {a : Addr} {os : List Ofr} (h : ShopAt H a os) : ∃ vs : List Addr, H a = some (.lst (vs.map V.ref)) ∧ Al (OfrAt H) vs os := by
  obtain ⟨vs, h1, h2, h3⟩ := h
  refine ⟨vs, h1, ?_⟩
  clear h1
  induction vs generalizing os with
  | nil =>
    cases os with
    | nil => exact True.intro
    | cons o r => simp at h2
  | cons v vr ih =>
    cases os with
    | nil => simp at h2
    | cons o r => exact ⟨h3 0 v o rfl rfl, ih (by simpa using h2) fun i v o hv ho => h3 (i + 1) v o hv ho⟩
theorem goodT_one (p : Int) : GoodT [(1, p)] := by
  refine ⟨by show 1 ≤ 1; decide, by show 1 ≤ 4; decide, fun t e => ?_, fun t ht => ?_, fun i a b ha hb => by simp at hb⟩
  · cases Option.some.inj e
    rfl
  · rw [List.mem_singleton.mp ht]
    show (1 : Int) ≤ 12
    decide
/-! ### lines of a good shop -/
theorem choices_mem : ∀ {ps c : List Int}, c ∈ choicesM ps → c.length ≤ ps.length ∧ ∀ x ∈ c, x ∈ ps
  | [], c, h => by
    rw [List.mem_singleton.mp h]
    exact ⟨Nat.le_refl _, fun x hx => by cases hx⟩
  | p :: ps, c, h => by
    rcases List.mem_append.mp h with h | h
    · rcases List.mem_append.mp h with h | h
      · rw [List.mem_singleton.mp h]
        exact ⟨Nat.zero_le _, fun x hx => by cases hx⟩
      · obtain ⟨d, hd, rfl⟩ := List.mem_map.mp h
        obtain ⟨h1, h2⟩ := choices_mem hd
        refine ⟨by rw [List.length_cons, List.length_cons]; omega, fun x hx => ?_⟩
        rcases List.mem_cons.mp hx with rfl | hx
        · exact List.mem_cons_self
        · exact List.mem_cons_of_mem _ (h2 x hx)
    · obtain ⟨h1, h2⟩ := choices_mem (List.mem_of_mem_tail h)
      exact ⟨by rw [List.length_cons]; omega, fun x hx => List.mem_cons_of_mem _ (h2 x hx)⟩
theorem adds_mem {os : List Ofr} {p : Int} {n : Nat} {x : Int} (h : x ∈ addsN os p n) : ∃ j : Nat, x = (j : Int) ∧ j < n ∧ ∃ c pr, os[j]? = some (.add c pr p) := by
  obtain ⟨j, hj, rfl⟩ := List.mem_map.mp h
  obtain ⟨h1, h2⟩ := List.mem_filter.mp hj
  refine ⟨j, rfl, List.mem_range.mp h1, ?_⟩
  unfold isAdd at h2
  split at h2
  · rename_i c pr k e
    have := of_decide_eq_true h2
    subst this
    exact ⟨c, pr, e⟩
  · cases h2
theorem linesAt_ok {os : List Ofr} (gd : Good os) {p : Nat} {l : Ln} (h : l ∈ linesAtM os p) : LineOk os l := by
  unfold linesAtM at h
  split at h
  · rename_i c pr e
    obtain ⟨ch, hch, rfl⟩ := List.mem_map.mp h
    obtain ⟨h1, h2⟩ := choices_mem hch
    have h8 := gd.1
    have hl := addsN_len os (p : Int) os.length
    refine ⟨p, rfl, .inr ⟨c, pr, e, rfl, ?_, fun x hx => ?_⟩⟩
    · have h1' : ch.length ≤ (addsN os (p : Int) os.length).length := h1
      show ch.length ≤ 8
      omega
    · obtain ⟨j, e1, _, c', pr', e2⟩ := adds_mem (h2 x hx)
      exact ⟨j, e1, c', pr', _, e2⟩
  · rename_i c ts e
    obtain ⟨i, hi, rfl⟩ := List.mem_map.mp h
    have hi' := List.mem_range.mp hi
    exact ⟨p, rfl, .inl ⟨c, ts, e, gd.2 p _ e, by show (1 : Int) ≤ 1 + (i : Nat); omega, by show (1 : Int) + (i : Nat) ≤ 12; omega, rfl⟩⟩
  · cases h
theorem lines_ok {os : List Ofr} (gd : Good os) {l : Ln} (h : l ∈ linesM os) : LineOk os l := by
  obtain ⟨p, _, hp⟩ := List.mem_flatMap.mp h
  exact linesAt_ok gd hp
/-- m numbers from nought on -/
def V0 (m : Nat) (c : List Int) : Prop := c.length = m ∧ ∀ x ∈ c, 0 ≤ x
theorem tog_nonneg : ∀ {a b : List Int}, (∀ x ∈ a, 0 ≤ x) → (∀ x ∈ b, 0 ≤ x) → ∀ x ∈ togM a b, 0 ≤ x
  | [], _, _, _, x, h => by simp [togM] at h
  | _ :: _, [], _, _, x, h => by simp [togM] at h
  | a :: r, b :: q, ha, hb, x, h => by
    have h' : x ∈ (a + b) :: togM r q := h
    rcases List.mem_cons.mp h' with rfl | h'
    · have h1 := ha a List.mem_cons_self
      have h2 := hb b List.mem_cons_self
      omega
    · exact tog_nonneg (fun y hy => ha y (List.mem_cons_of_mem _ hy)) (fun y hy => hb y (List.mem_cons_of_mem _ hy)) x h'
theorem V0.tog {m : Nat} {a b : List Int} (ha : V0 m a) (hb : V0 m b) : V0 m (togM a b) := ⟨by rw [togM_len, ha.1, hb.1]; exact Nat.min_self m, tog_nonneg ha.2 hb.2⟩
theorem FitO.v0 {m : Nat} {o : Ofr} (h : FitO m o) : V0 m o.cont := ⟨h.cont.1, fun x hx => (h.cont.2 x hx).1⟩
theorem V0.fold {m : Nat} {α : Type} {f : α → List Int} : ∀ {ls : List α} {acc : List Int}, V0 m acc → (∀ l ∈ ls, V0 m (f l)) → V0 m (ls.foldl (fun acc l => togM acc (f l)) acc)
  | [], _, h, _ => h
  | l :: r, acc, h, hl => V0.fold (ls := r) (h.tog (hl l List.mem_cons_self)) fun x hx => hl x (List.mem_cons_of_mem _ hx)
theorem cont_v0 {m : Nat} {os : List Ofr} {l : Ln} (ft : FitS m os) (lok : LineOk os l) : V0 m (contM os l) := by
  obtain ⟨p, ep, ways⟩ := lok
  unfold contM
  rcases ways with ⟨c, ts, w1, w0, w2, w3, w4⟩ | ⟨c, pr, w1, w2, w3, w4⟩
  · have hf := (ft _ (List.mem_of_getElem? w1)).v0
    refine V0.fold ⟨?_, fun x hx => ?_⟩ (fun x hx => by rw [w4] at hx; cases hx)
    · rw [List.length_map, ep, contAt_get w1]
      exact hf.1
    · rw [ep, contAt_get w1] at hx
      obtain ⟨y, hy, rfl⟩ := List.mem_map.mp hx
      exact Int.mul_nonneg (by omega) (hf.2 y hy)
  · have hf := (ft _ (List.mem_of_getElem? w1)).v0
    refine V0.fold ⟨?_, fun x hx => ?_⟩ (fun x hx => ?_)
    · rw [List.length_map, ep, contAt_get w1]
      exact hf.1
    · rw [ep, contAt_get w1] at hx
      obtain ⟨y, hy, rfl⟩ := List.mem_map.mp hx
      exact Int.mul_nonneg (by omega) (hf.2 y hy)
    · obtain ⟨j, rfl, c', pr', k, hj⟩ := w4 x hx
      rw [contAt_get hj]
      exact (ft _ (List.mem_of_getElem? hj)).v0
/-! ### least prices, as lists -/
/-- what a line holds and costs -/
abbrev Rw := List Int × Int
def sumC (q : List Rw) (i : Nat) : Int := (q.map fun r => hadM r.1 i).sum
def costM (q : List Rw) : Int := (q.map (·.2)).sum
def CovM (q : List Rw) (w : List Int) : Prop := ∀ (i : Nat) (n : Int), w[i]? = some n → n ≤ sumC q i
def SubM (q ps : List Rw) : Prop := ∀ r ∈ q, r ∈ ps
def LeastIs (ps : List Rw) (w : List Int) : Option Int → Prop
  | none => ∀ q, SubM q ps → ¬ CovM q w
  | some p => (∃ q, SubM q ps ∧ CovM q w ∧ costM q = p) ∧ ∀ q, SubM q ps → CovM q w → p ≤ costM q
def NN (ps : List Rw) : Prop := ∀ r ∈ ps, (∀ x ∈ r.1, 0 ≤ x) ∧ 0 ≤ r.2
theorem leastIs_unique {ps : List Rw} {w : List Int} : ∀ {a b : Option Int}, LeastIs ps w a → LeastIs ps w b → a = b
  | none, none, _, _ => rfl
  | none, some p, h, ⟨⟨q, h1, h2, _⟩, _⟩ => absurd h2 (h q h1)
  | some p, none, ⟨⟨q, h1, h2, _⟩, _⟩, h => absurd h2 (h q h1)
  | some p, some p', ⟨⟨q, h1, h2, h3⟩, h4⟩, ⟨⟨q', k1, k2, k3⟩, k4⟩ => by
    have := h4 q' k1 k2
    have := k4 q h1 h2
    congr 1
    omega
theorem had_nonneg {c : List Int} (h : ∀ x ∈ c, 0 ≤ x) (i : Nat) : 0 ≤ hadM c i := by
  by_cases z : i < c.length
  · exact h _ (List.mem_of_getElem? (hadM_in z))
  · rw [hadM_out z]
    exact Int.le_refl _
theorem sumC_cons (r : Rw) (q : List Rw) (i : Nat) : sumC (r :: q) i = hadM r.1 i + sumC q i := by
  unfold sumC
  rw [List.map_cons, List.sum_cons]
theorem sumC_app (a b : List Rw) (i : Nat) : sumC (a ++ b) i = sumC a i + sumC b i := by
  unfold sumC
  rw [List.map_append, List.sum_append]
theorem costM_cons (r : Rw) (q : List Rw) : costM (r :: q) = r.2 + costM q := by
  unfold costM
  rw [List.map_cons, List.sum_cons]
theorem costM_app (a b : List Rw) : costM (a ++ b) = costM a + costM b := by
  unfold costM
  rw [List.map_append, List.sum_append]
theorem sumC_nonneg : ∀ {q : List Rw}, (∀ r ∈ q, ∀ x ∈ r.1, 0 ≤ x) → ∀ i, 0 ≤ sumC q i
  | [], _, i => by simp [sumC]
  | r :: q, h, i => by
    have h1 := had_nonneg (h r List.mem_cons_self) i
    have h2 := sumC_nonneg (q := q) (fun s hs => h s (List.mem_cons_of_mem _ hs)) i
    rw [sumC_cons]
    omega
theorem costM_nonneg : ∀ {q : List Rw}, (∀ r ∈ q, 0 ≤ r.2) → 0 ≤ costM q
  | [], _ => by simp [costM]
  | r :: q, h => by
    have h1 := h r List.mem_cons_self
    have h2 := costM_nonneg (q := q) (fun s hs => h s (List.mem_cons_of_mem _ hs))
    rw [costM_cons]
    omega
theorem leastIs_zero {ps : List Rw} {w : List Int} (nn : NN ps) (h : ∀ x ∈ w, x ≤ 0) : LeastIs ps w (some 0) := by
  refine ⟨⟨[], (fun r hr => nomatch hr), fun i n hn => ?_, rfl⟩, fun q hq _ => costM_nonneg fun r hr => (nn r (hq r hr)).2⟩
  have := h n (List.mem_of_getElem? hn)
  show n ≤ 0
  exact this
/-- a line ahead: what it leaves is to be covered by the others -/
theorem cov_cons {r : Rw} {q : List Rw} {w : List Int} (h : CovM q (restM w r.1)) : CovM (r :: q) w := fun i n hn => by
  have := h i _ (restM_get (cs := r.1) hn)
  rw [sumC_cons]
  split at this <;> omega
theorem cov_rest {r : Rw} {q : List Rw} {w : List Int} (hq : ∀ i, 0 ≤ sumC q i) (h : CovM (r :: q) w) : CovM q (restM w r.1) := fun i n hn => by
  have hi : i < w.length := by
    have := (List.getElem?_eq_some_iff.mp hn).1
    rw [restM_len] at this
    exact this
  have e := List.getElem?_eq_getElem hi
  have h1 := h i _ e
  rw [restM_get e] at hn
  have h2 := hq i
  rw [sumC_cons] at h1
  have := Option.some.inj hn
  split at this <;> omega
theorem cov_mid {r : Rw} {a b : List Rw} {w : List Int} (h : CovM (a ++ r :: b) w) : CovM (r :: (a ++ b)) w := fun i n hn => by
  have := h i n hn
  rw [sumC_app, sumC_cons] at this
  rw [sumC_cons, sumC_app]
  omega
/-- of what covers wants that are not noughts one line takes something away -/
theorem some_helps {q : List Rw} {w : List Int} {i : Nat} {n : Int} (hn : w[i]? = some n) (hp : 0 < n) (h : CovM q w) : ∃ r ∈ q, restM w r.1 ≠ w := by
  refine Classical.byContradiction fun no => ?_
  have all : ∀ r ∈ q, hadM r.1 i = 0 ∨ hadM r.1 i < 0 := fun r hr => by
    have e : restM w r.1 = w := Classical.byContradiction fun z => no ⟨r, hr, z⟩
    have g := restM_get (cs := r.1) hn
    rw [e, hn] at g
    have := Option.some.inj g
    split at this <;> omega
  have le : ∀ q : List Rw, (∀ r ∈ q, hadM r.1 i = 0 ∨ hadM r.1 i < 0) → sumC q i ≤ 0 := fun q => by
    induction q with
    | nil => intro _; simp [sumC]
    | cons r q ih =>
      intro h
      have h1 := h r List.mem_cons_self
      have h2 := ih fun s hs => h s (List.mem_cons_of_mem _ hs)
      rw [sumC_cons]
      omega
  have h1 := le q all
  have h2 := h i n hn
  omega
/-- the best of some lines to be bought first -/
def BestOf (ps : List Rw) (w : List Int) (l : List Rw) : Option Int → Prop
  | none => ∀ r ∈ l, restM w r.1 ≠ w → LeastIs ps (restM w r.1) none
  | some p => (∃ r ∈ l, restM w r.1 ≠ w ∧ LeastIs ps (restM w r.1) (some (p - r.2))) ∧ ∀ r ∈ l, restM w r.1 ≠ w → ∀ g, LeastIs ps (restM w r.1) (some g) → p ≤ r.2 + g
theorem leastIs_step {ps : List Rw} {w : List Int} {o : Option Int} {i : Nat} {n : Int} (nn : NN ps) (hn : w[i]? = some n) (hp : 0 < n) (hex : ∀ r ∈ ps, restM w r.1 ≠ w → ∃ g, LeastIs ps (restM w r.1) g) (hb : BestOf ps w ps o) : LeastIs ps w o := by
  have key : ∀ q, SubM q ps → CovM q w → ∃ r ∈ ps, restM w r.1 ≠ w ∧ ∃ q', SubM q' ps ∧ CovM q' (restM w r.1) ∧ costM q = r.2 + costM q' := fun q hq hc => by
    obtain ⟨r, hr, hne⟩ := some_helps hn hp hc
    obtain ⟨a, b, rfl⟩ := List.append_of_mem hr
    have hs : SubM (a ++ b) ps := fun s hs => hq s (by
      rcases List.mem_append.mp hs with z | z
      · exact List.mem_append.mpr (.inl z)
      · exact List.mem_append.mpr (.inr (List.mem_cons_of_mem _ z)))
    refine ⟨r, hq r hr, hne, a ++ b, hs, cov_rest (fun j => sumC_nonneg (fun s h => (nn s (hs s h)).1) j) (cov_mid hc), ?_⟩
    rw [costM_app, costM_cons, costM_app]
    omega
  cases o with
  | none =>
    intro q hq hc
    obtain ⟨r, hr, hne, q', h1, h2, _⟩ := key q hq hc
    exact hb r hr hne q' h1 h2
  | some p =>
    obtain ⟨⟨r, hr, hne, ⟨q, h1, h2, h3⟩, _⟩, hle⟩ := hb
    refine ⟨⟨r :: q, fun s hs => ?_, cov_cons h2, by rw [costM_cons, h3]; omega⟩, fun q hq hc => ?_⟩
    · rcases List.mem_cons.mp hs with rfl | hs
      · exact hr
      · exact h1 s hs
    · obtain ⟨r, hr, hne, q', h1, h2, h3⟩ := key q hq hc
      obtain ⟨g, hg⟩ := hex r hr hne
      cases g with
      | none => exact absurd h2 (hg q' h1)
      | some g =>
        have := hle r hr hne g hg
        have := hg.2 q' h1 h2
        omega
/-- a line more that is looked at -/
theorem BestOf.snoc {ps : List Rw} {w : List Int} {l : List Rw} {o : Option Int} {r : Rw} (h : BestOf ps w l o) :
    (restM w r.1 = w → BestOf ps w (l ++ [r]) o) ∧ (LeastIs ps (restM w r.1) none → BestOf ps w (l ++ [r]) o) ∧
    (∀ g, restM w r.1 ≠ w → LeastIs ps (restM w r.1) (some g) → (∀ p, o = some p → r.2 + g < p) → BestOf ps w (l ++ [r]) (some (r.2 + g))) ∧
    (∀ g p, LeastIs ps (restM w r.1) (some g) → o = some p → ¬ r.2 + g < p → BestOf ps w (l ++ [r]) o) := by
  refine ⟨fun e => ?_, fun e => ?_, fun g ne hg lt => ?_, fun g p hg eo nlt => ?_⟩
  · cases o with
    | none =>
      intro s hs hne
      rcases List.mem_append.mp hs with z | z
      · exact h s z hne
      · rw [List.mem_singleton.mp z] at hne
        exact absurd e hne
    | some p =>
      obtain ⟨⟨s, hs, h1⟩, h2⟩ := h
      refine ⟨⟨s, List.mem_append.mpr (.inl hs), h1⟩, fun s hs hne => ?_⟩
      rcases List.mem_append.mp hs with z | z
      · exact h2 s z hne
      · rw [List.mem_singleton.mp z] at hne
        exact absurd e hne
  · cases o with
    | none =>
      intro s hs hne
      rcases List.mem_append.mp hs with z | z
      · exact h s z hne
      · rw [List.mem_singleton.mp z]
        exact e
    | some p =>
      obtain ⟨⟨s, hs, h1⟩, h2⟩ := h
      refine ⟨⟨s, List.mem_append.mpr (.inl hs), h1⟩, fun s hs hne g hg => ?_⟩
      rcases List.mem_append.mp hs with z | z
      · exact h2 s z hne g hg
      · rw [List.mem_singleton.mp z] at hg
        exact absurd (leastIs_unique e hg) (fun z => nomatch z)
  · refine ⟨⟨r, List.mem_append.mpr (.inr List.mem_cons_self), ne, by rw [show r.2 + g - r.2 = g by omega]; exact hg⟩, fun s hs hne g' hg' => ?_⟩
    rcases List.mem_append.mp hs with z | z
    · cases o with
      | none => exact absurd (leastIs_unique (h s z hne) hg') (fun z => nomatch z)
      | some p =>
        have := lt p rfl
        have := h.2 s z hne g' hg'
        omega
    · rw [List.mem_singleton.mp z] at hg' ⊢
      have := Option.some.inj (leastIs_unique hg hg')
      omega
  · subst eo
    obtain ⟨⟨s, hs, h1⟩, h2⟩ := h
    refine ⟨⟨s, List.mem_append.mpr (.inl hs), h1⟩, fun s hs hne g' hg' => ?_⟩
    rcases List.mem_append.mp hs with z | z
    · exact h2 s z hne g' hg'
    · rw [List.mem_singleton.mp z] at hg' ⊢
      have := Option.some.inj (leastIs_unique hg hg')
      omega
/-! ### what the least prices of wants have to do with each other -/
theorem least_mono {ps : List Rw} {w w' : List Int} {p : Int} {o : Option Int} (hle : ∀ (i : Nat) (n : Int), w'[i]? = some n → ∃ m, w[i]? = some m ∧ n ≤ m) (h : LeastIs ps w (some p)) (h' : LeastIs ps w' o) : ∃ p', o = some p' ∧ p' ≤ p := by
  obtain ⟨⟨q, h1, h2, h3⟩, _⟩ := h
  have hc : CovM q w' := fun i n hn => by
    obtain ⟨m, hm, le⟩ := hle i n hn
    have := h2 i m hm
    omega
  cases o with
  | none => exact absurd hc (h' q h1)
  | some p' => exact ⟨p', rfl, by rw [← h3]; exact h'.2 q h1 hc⟩
theorem least_sum {ps : List Rw} {w a b : List Int} {pa pb : Int} {o : Option Int} (hs : ∀ (i : Nat) (n : Int), w[i]? = some n → ∃ x y, a[i]? = some x ∧ b[i]? = some y ∧ n ≤ x + y) (ha : LeastIs ps a (some pa)) (hb : LeastIs ps b (some pb)) (h : LeastIs ps w o) : ∃ p, o = some p ∧ p ≤ pa + pb := by
  obtain ⟨⟨q, h1, h2, h3⟩, _⟩ := ha
  obtain ⟨⟨q', k1, k2, k3⟩, _⟩ := hb
  have hq : SubM (q ++ q') ps := fun r hr => by
    rcases List.mem_append.mp hr with z | z
    · exact h1 r z
    · exact k1 r z
  have hc : CovM (q ++ q') w := fun i n hn => by
    obtain ⟨x, y, hx, hy, le⟩ := hs i n hn
    have := h2 i x hx
    have := k2 i y hy
    rw [sumC_app]
    omega
  cases o with
  | none => exact absurd hc (h _ hq)
  | some p =>
    refine ⟨p, rfl, ?_⟩
    have := h.2 _ hq hc
    rw [costM_app] at this
    omega
theorem least_more {ps ps' : List Rw} {w : List Int} {p : Int} {o : Option Int} (hs : SubM ps ps') (h : LeastIs ps w (some p)) (h' : LeastIs ps' w o) : ∃ p', o = some p' ∧ p' ≤ p := by
  obtain ⟨⟨q, h1, h2, h3⟩, _⟩ := h
  have hq : SubM q ps' := fun r hr => hs r (h1 r hr)
  cases o with
  | none => exact absurd h2 (h' q hq)
  | some p' => exact ⟨p', rfl, by rw [← h3]; exact h'.2 q hq h2⟩
def dearM (t : Int) (r : Rw) : Rw := (r.1, t * r.2)
theorem sumC_dear (t : Int) : ∀ (q : List Rw) (i : Nat), sumC (q.map (dearM t)) i = sumC q i
  | [], _ => rfl
  | r :: q, i => by
    rw [List.map_cons, sumC_cons, sumC_cons, sumC_dear t q i]
    rfl
theorem costM_dear (t : Int) : ∀ (q : List Rw), costM (q.map (dearM t)) = t * costM q
  | [] => by simp [costM]
  | r :: q => by
    rw [List.map_cons, costM_cons, costM_cons, costM_dear t q, Int.mul_add]
    rfl
theorem dear_sub {t : Int} {ps : List Rw} : ∀ {q : List Rw}, SubM q (ps.map (dearM t)) → ∃ q', SubM q' ps ∧ q = q'.map (dearM t)
  | [], _ => ⟨[], (fun r hr => nomatch hr), rfl⟩
  | r :: q, h => by
    obtain ⟨q', h1, h2⟩ := dear_sub (q := q) fun s hs => h s (List.mem_cons_of_mem _ hs)
    obtain ⟨s, hs, e⟩ := List.mem_map.mp (h r List.mem_cons_self)
    refine ⟨s :: q', fun x hx => ?_, by rw [List.map_cons, e, h2]⟩
    rcases List.mem_cons.mp hx with rfl | hx
    · exact hs
    · exact h1 x hx
theorem least_dear {ps : List Rw} {w : List Int} {t : Int} (ht : 0 < t) : ∀ {o : Option Int}, LeastIs ps w o → LeastIs (ps.map (dearM t)) w (o.map (t * ·))
  | none, h => fun q hq hc => by
    obtain ⟨q', h1, rfl⟩ := dear_sub hq
    exact h q' h1 fun i n hn => by have := hc i n hn; rw [sumC_dear] at this; exact this
  | some p, ⟨⟨q, h1, h2, h3⟩, h4⟩ => by
    refine ⟨⟨q.map (dearM t), fun r hr => ?_, fun i n hn => by rw [sumC_dear]; exact h2 i n hn, by rw [costM_dear, h3]⟩, fun q hq hc => ?_⟩
    · obtain ⟨s, hs, rfl⟩ := List.mem_map.mp hr
      exact List.mem_map.mpr ⟨s, h1 s hs, rfl⟩
    · obtain ⟨q', k1, rfl⟩ := dear_sub hq
      rw [costM_dear]
      exact Int.mul_le_mul_of_nonneg_left (h4 q' k1 fun i n hn => by have := hc i n hn; rw [sumC_dear] at this; exact this) (by omega)
/-! ### priced_lines -/
abbrev s_priced_lines : Stmt := topS 18
abbrev N_priced_lines : List Str := ["shop", "line"]
theorem sc_priced_lines : FnScope N_priced_lines ["shop"] (defScope s_priced_lines) := ⟨rfl, rfl, rfl, by decide +kernel, rfl, by decide +kernel, by decide +kernel⟩

/-- a line, what it holds and what it costs -/
abbrev PR := Ln × Rw
def prowM (os : List Ofr) (l : Ln) : PR := (l, (contM os l, priceM os l))
def prowsM (os : List Ofr) : List PR := (linesM os).map (prowM os)
def PRowF (H0 H : Hp) (a : Addr) (x : PR) : Prop := ∃ la ca, H a = some (.tup [.ref la, .ref ca, .int x.2.2]) ∧ LineF H0 H la x.1 ∧ H ca = some (LI x.2.1) ∧ H0 a = none ∧ H0 ca = none
theorem LineF.ke {H0 H H' : Hp} (e : Ke H H') {a : Addr} {l : Ln} (h : LineF H0 H a l) : LineF H0 H' a l := by
  obtain ⟨b, h1, h2, h3⟩ := h
  exact ⟨b, e.tup h1, e.lst h2, h3⟩
theorem PRowF.ke {H0 H H' : Hp} (e : Ke H H') {a : Addr} {x : PR} (h : PRowF H0 H a x) : PRowF H0 H' a x := by
  obtain ⟨la, ca, h1, h2, h3, h4⟩ := h
  exact ⟨la, ca, e.tup h1, h2.ke e, e.lst h3, h4⟩
def PricedF (H0 H : Hp) (q : Addr) (xs : List PR) : Prop := ∃ as : List Addr, H q = some (.lst (as.map V.ref)) ∧ Al (PRowF H0 H) as xs
theorem PricedF.toF {H0 H : Hp} {q : Addr} {xs : List PR} (h : PricedF H0 H q xs) : PricedF H0 H q xs := h
def sp_priced_lines (T : List Addr) : Sp := fun vs H Q _ => ∃ (a : Addr) (os : List Ofr), vs = [.ref a] ∧ ShopAt H a os ∧ Good os ∧ Fit os ∧ Tb T H ∧ ∀ H' q, Ext T H H' → H q = none → PricedF H H' q (prowsM os) → Q (.ref q) H'
section
variable {P : Program} {w : World} {K : PySem.W.Frag} {mg : Str → Option Value} {base : Heap} {T : List Addr}
theorem ok_priced_lines {f f1 f2 f3 f4 f5 f6 f7 f8 f9 f10 f11 f12 c t c' t' : Addr} {fd fd1 fd2 fd3 fd4 fd5 fd6 fd7 fd8 fd9 fd10 fd11 fd12 : FuncData} {k : Nat} (M : Names mg) (D : Def K mg "priced_lines" s_priced_lines ["shop"] f fd) (D_lines : Def K mg "lines" s_lines ["shop"] f9 fd9) (D_look : Def K mg "look" s_look ["shop"] f1 fd1) (D_can_stand : Def K mg "can_stand" s_can_stand ["shop", "at"] f2 fd2) (D_names_pack : Def K mg "names_pack" s_names_pack ["shop", "at"] f3 fd3) (D_good_tiers : Def K mg "good_tiers" s_good_tiers ["tiers"] f4 fd4)
    (hc : fd4.code = .ref c) (TB : GxR.TabB base mg c t) (ht : t ∈ T) (D_lines_at : Def K mg "lines_at" s_lines_at ["shop", "place"] f10 fd10) (D_adds_to : Def K mg "adds_to" s_adds_to ["shop", "place"] f11 fd11) (D_choices : Def K mg "choices" s_choices ["places"] f12 fd12) (D_content_of : Def K mg "content_of" s_content_of ["shop", "line"] f5 fd5) (D_together : Def K mg "together" s_together ["content", "other"] f6 fd6) (D_price_of : Def K mg "price_of" s_price_of ["shop", "line"] f7 fd7) (hc' : fd7.code = .ref c') (TB' : GxR.TabB base mg c' t') (ht' : t' ∈ T) (D_piece_price : Def K mg "piece_price" s_piece_price ["tiers", "count"] f8 fd8) : FnOk P w K mg base CX0 (k + 5) f fd ["shop"] (sp_priced_lines T) := by
  have G_lines : FnOk P w K mg base CX0 (k + 4) f9 fd9 ["shop"] (sp_lines T) := ok_lines M D_lines D_look D_can_stand D_names_pack D_good_tiers hc TB ht D_lines_at D_adds_to D_choices
  have G_content_of : FnOk P w K mg base CX0 (k + 4) f5 fd5 ["shop", "line"] sp_content_of := ok_content_of M D_content_of D_together
  have G_price_of : FnOk P w K mg base CX0 (k + 4) f7 fd7 ["shop", "line"] (sp_price_of T) := ok_price_of M D_price_of hc' TB' ht' D_piece_price
  refine D.F.ok sc_priced_lines (fun vs H Q E h => ?_) (fun cdv A outer s H vs Q E hr h => ?_)
  · obtain ⟨a, os, rfl, _⟩ := h
    rfl
  · obtain ⟨a, os, rfl, hS, gd, fit, hT, q⟩ := h
    refine ⟨_, (pss_one (ps_ret (pe_lc (own := [("line", 1)]) (by rfl) sc_priced_lines.nd (pi_list (pe_call G_lines hr (by rfl) D_lines.g D_lines.F.kp D_lines.b .nil pass0 (pa_cons (pv 0) pa_nil))) (blkOk_by (own := [("line", 1)]) (N := N_priced_lines) (sc := defScope s_priced_lines) (by decide +kernel)) (fun _ _ _ _ _ => (pg_name (i := 1) sc_priced_lines.nd rfl (Or.inl rfl))) (fun _ _ _ _ _ => pts_nil) (fun _ _ _ _ _ => (pe_tup (pa_cons (pv 1) (pa_cons (pe_call G_content_of hr (by rfl) D_content_of.g D_content_of.F.kp D_content_of.b .nil pass0 (pa_cons (pv 0) (pa_cons (pv 1) pa_nil))) (pa_cons (pe_call G_price_of hr (by rfl) D_price_of.g D_price_of.F.kp D_price_of.b .nil pass0 (pa_cons (pv 0) (pa_cons (pv 1) pa_nil))) pa_nil)))))))), ?_⟩
    refine ⟨_, rfl, a, os, rfl, hS, gd, hT, fun H1 L e1 nL hL => ?_⟩
    obtain ⟨as, hLl, alF⟩ := hL
    have lal := alF.len
    have tot : (linesM os).length ≤ 2048 := by
      have := linesN_len gd.1 os.length
      have h8 := gd.1
      unfold linesM
      omega
    have hl2 : (prowsM os).length = as.length := by
      unfold prowsM
      rw [List.length_map, lal]
    refine ⟨L, rfl, ⟨_, SqL.of hLl⟩, fun B nB => lc_list (xs := as.map V.ref) (fun j H' => Ext T H1 H' ∧ ∃ rs : List Addr, H' B = some (.lst (rs.map V.ref)) ∧ Al (PRowF H (cutH B H')) rs ((prowsM os).take j)) ⟨.same (same_upd nB) e1.t1, [], upd_same, True.intro⟩ (fun j H' _ hp => SqL.of (hp.1.lst hLl)) (fun j x H3 hx hp => ?_) (fun H3 hp => ?_)⟩
    · obtain ⟨e3, rs, hB, all⟩ := hp
      rw [List.getElem?_map] at hx
      cases hu : as[j]? with
      | none => rw [hu] at hx; cases hx
      | some u =>
        rw [hu] at hx
        cases Option.some.inj hx
        obtain ⟨l, hl, hlf⟩ := alF.get hu
        have lk := lines_ok gd (List.mem_of_getElem? hl)
        have e13 := e1.trans e3
        refine ⟨rfl, _, rfl, _, rfl, _, rfl, a, u, os, l, rfl, hS.ext e13, hlf.at.ext e3, lk, fit, fun H4 c4 s4 nc4 hc4 => ?_⟩
        have e4 := e3.trans (.same s4 e3.t1)
        refine ⟨_, rfl, _, rfl, a, u, os, l, rfl, hS.ext (e1.trans e4), hlf.at.ext e4, lk, fit, e4.t1, fun H5 e5 => ⟨by show 3 ≤ sizeLine; decide, fun tt ntt => ?_⟩⟩
        have e35 : Ext T H3 H5 := (Ext.same s4 e3.t1).trans e5
        have hB5 := e35.lst hB
        have ntB : tt ≠ B := fun z => by rw [z, hB5] at ntt; cases ntt
        have ncB : c4 ≠ B := fun z => by rw [z, hB] at nc4; cases nc4
        have hc5 := e5.lst hc4
        have st := same_upd (o := .tup [.ref u, .ref c4, .int (priceM os l)]) ntt
        have lrs := all.len
        rw [List.length_take, hl2] at lrs
        have nuB : ∀ b, H1 b ≠ none → b ≠ B := fun b hb z => hb (by rw [z]; exact nB)
        have e1t : Ext T H1 (upd H5 tt (.tup [.ref u, .ref c4, .int (priceM os l)])) := (e4.trans e5).trans (.same st (e4.trans e5).t1)
        refine ⟨_, st _ _ hB5, szL' (by rw [List.length_map]; omega), e1t.new nB, rs ++ [tt], ?_, ?_⟩
        · rw [upd_same, List.map_append]
          rfl
        · have hpr : (prowsM os)[j]? = some (prowM os l) := by
            unfold prowsM
            rw [List.getElem?_map, hl]
            rfl
          rw [take_succ_at hpr, cut_off]
          refine Al.app (all.imp fun r x h => h.ke ((e35.ke.trans (.of st)).cut)) (.one ⟨u, c4, cut_put ntB upd_same, ?_, cut_put ncB (st _ _ hc5), ?_, e13.free _ nc4⟩)
          · obtain ⟨b, k1, k2, k3, k4⟩ := hlf
            have k1' := e1t.tup k1
            have k2' := e1t.lst k2
            exact ⟨b, cut_put (nuB _ (by rw [k1]; exact fun z => nomatch z)) k1', cut_put (nuB _ (by rw [k2]; exact fun z => nomatch z)) k2', k3, k4⟩
          · exact e1.free _ ((e4.trans e5).free _ ntt)
    · obtain ⟨e3, rs, hB, all⟩ := hp
      rw [List.length_map, List.take_of_length_le (by omega)] at all
      exact q H3 B (e1.trans e3) (e1.free _ nB) ⟨rs, hB, all.imp fun r x h => h.ke (.of cut_le)⟩
end
/-! ### best_step, all_steps -/
abbrev s_best_step : Stmt := topS 24
abbrev N_best_step : List Str := ["less", "priced", "steps", "best", "row", "behind", "line", "content", "price"]
theorem sc_best_step : FnScope N_best_step ["less", "priced", "steps"] (defScope s_best_step) := ⟨rfl, rfl, rfl, by decide +kernel, rfl, by decide +kernel, by decide +kernel⟩

abbrev s_all_steps : Stmt := topS 25
abbrev N_all_steps : List Str := ["priced", "want", "steps", "less"]
theorem sc_all_steps : FnScope N_all_steps ["priced", "want"] (defScope s_all_steps) := ⟨rfl, rfl, rfl, by decide +kernel, rfl, by decide +kernel, by decide +kernel⟩

def keyW (w : List Int) : List Key := w.map Sum.inl
theorem keyW_kV (w : List Int) : (keyW w).map kV = w.map V.int := by
  unfold keyW
  rw [List.map_map]
  rfl
theorem keyW_inj : ∀ {a b : List Int}, keyW a = keyW b → a = b
  | [], [], _ => rfl
  | [], _ :: _, e => by cases e
  | _ :: _, [], e => by cases e
  | x :: a, y :: b, e => by
    have e' : (Sum.inl x : Key) :: keyW a = Sum.inl y :: keyW b := e
    injection e' with e1 e2
    rw [keyW_inj e2, Sum.inl.inj e1]
theorem valV_zip {κ : Type} [DecidableEq κ] : ∀ {ks : List κ} {vs : List V} {i : Nat} {k : κ} {v : V}, ks.Nodup → ks[i]? = some k → vs[i]? = some v → valV (ks.zip vs) k = some v
  | [], _, _, _, _, _, h, _ => by simp at h
  | _ :: _, [], _, _, _, _, _, h => by simp at h
  | a :: r, b :: q, 0, k, v, nd, h, h2 => by
    cases Option.some.inj h
    cases Option.some.inj h2
    exact valV_pos (p := (a, b)) rfl
  | a :: r, b :: q, i + 1, k, v, nd, h, h2 => by
    have n1 := (List.nodup_cons.mp nd).1
    have ne : ¬ a = k := fun z => n1 (z ▸ List.mem_of_getElem? (show r[i]? = some k from h))
    rw [List.zip_cons_cons, valV_neg (p := (a, b)) ne]
    exact valV_zip (List.nodup_cons.mp nd).2 (show r[i]? = some k from h) (show q[i]? = some v from h2)
theorem valV_zip_none {κ : Type} [DecidableEq κ] : ∀ {ks : List κ} {vs : List V} {k : κ}, k ∉ ks → valV (ks.zip vs) k = none
  | [], _, _, _ => rfl
  | _ :: _, [], _, _ => rfl
  | a :: r, b :: q, k, h => by
    have ne : ¬ a = k := fun z => h (by rw [← z]; exact List.mem_cons_self)
    rw [List.zip_cons_cons, valV_neg (p := (a, b)) ne]
    exact valV_zip_none fun z => h (List.mem_cons_of_mem _ z)
def PRowAt (H : Hp) (a : Addr) (x : PR) : Prop := ∃ la ca, H a = some (.tup [.ref la, .ref ca, .int x.2.2]) ∧ LineAt H la x.1 ∧ H ca = some (LI x.2.1)
theorem PRowF.at {H0 H : Hp} {a : Addr} {x : PR} (h : PRowF H0 H a x) : PRowAt H a x := by
  obtain ⟨la, ca, h1, h2, h3, _⟩ := h
  exact ⟨la, ca, h1, h2.at, h3⟩
theorem PRowAt.ke {H H' : Hp} (e : Ke H H') {a : Addr} {x : PR} (h : PRowAt H a x) : PRowAt H' a x := by
  obtain ⟨la, ca, h1, h2, h3⟩ := h
  exact ⟨la, ca, e.tup h1, h2.ke e, e.lst h3⟩
abbrev rwsM (xs : List PR) : List Rw := xs.map (·.2)
/-- no row ahead of i is as good -/
def FirstR (xs : List PR) (w : List Int) (p : Int) (i : Nat) : Prop := ∀ (j : Nat) (y : PR), j < i → xs[j]? = some y → restM w y.2.1 ≠ w → ¬ LeastIs (rwsM xs) (restM w y.2.1) (some (p - y.2.2))
theorem first_of {ps : List Rw} {w : List Int} {l : List Rw} {o : Option Int} {s : Int} (h : BestOf ps w l o) (lt : ∀ p, o = some p → s < p) : ∀ y ∈ l, restM w y.1 ≠ w → ¬ LeastIs ps (restM w y.1) (some (s - y.2)) := fun y hy ne li => by
  cases o with
  | none => exact absurd (leastIs_unique (h y hy ne) li) (fun z => nomatch z)
  | some p =>
    have h1 := lt p rfl
    have h2 := h.2 y hy ne _ li
    omega
/-- the purchase that the table's steps lead to -/
inductive PathM (xs : List PR) : List Int → List PR → Prop
  | done {w : List Int} (h : anyI w = false) : PathM xs w []
  | step {w : List Int} {i : Nat} {x : PR} {p : Int} {ys : List PR} (h : anyI w = true) (li : LeastIs (rwsM xs) w (some p)) (hx : xs[i]? = some x) (ne : restM w x.2.1 ≠ w) (lr : LeastIs (rwsM xs) (restM w x.2.1) (some (p - x.2.2))) (fr : FirstR xs w p i) (t : PathM xs (restM w x.2.1) ys) : PathM xs w (x :: ys)
theorem PathM.unique {xs : List PR} {w : List Int} {ys zs : List PR} (h : PathM xs w ys) (k : PathM xs w zs) : ys = zs := by
  induction h generalizing zs with
  | done h =>
    cases k with
    | done _ => rfl
    | step h' => rw [h] at h'; cases h'
  | step h li hx ne lr fr t ih =>
    cases k with
    | done h' => rw [h] at h'; cases h'
    | @step _ j x' p' ys' h' li' hx' ne' lr' fr' t' =>
      have ep := Option.some.inj (leastIs_unique li li')
      subst ep
      rename_i i x p ys
      have eij : i = j := by
        rcases Nat.lt_trichotomy i j with z | z | z
        · exact absurd lr (fr' i x z hx ne)
        · exact z
        · exact absurd lr' (fr j x' z hx' ne')
      subst eij
      rw [hx] at hx'
      cases Option.some.inj hx'
      rw [ih t']
/-- what the table says of wants -/
def StepV (H : Hp) (as : List Addr) (xs : List PR) (w : List Int) (v : V) : Prop :=
  (v = .non ∧ LeastIs (rwsM xs) w none) ∨ ∃ (b : Addr) (p : Int), v = .ref b ∧ LeastIs (rwsM xs) w (some p) ∧
    ((anyI w = false ∧ H b = some (.tup [.int p, .non])) ∨ (anyI w = true ∧ ∃ (i : Nat) (r : Addr) (x : PR), as[i]? = some r ∧ xs[i]? = some x ∧ H b = some (.tup [.int p, .ref r]) ∧ restM w x.2.1 ≠ w ∧ LeastIs (rwsM xs) (restM w x.2.1) (some (p - x.2.2)) ∧ FirstR xs w p i))
theorem StepV.ke {H H' : Hp} (e : Ke H H') {as : List Addr} {xs : List PR} {w : List Int} {v : V} (h : StepV H as xs w v) : StepV H' as xs w v := by
  rcases h with h | ⟨b, p, h1, h2, h3⟩
  · exact .inl h
  · refine .inr ⟨b, p, h1, h2, ?_⟩
    rcases h3 with ⟨k1, k2⟩ | ⟨k1, i, r, x, k2, k3, k4, k5⟩
    · exact .inl ⟨k1, e.tup k2⟩
    · exact .inr ⟨k1, i, r, x, k2, k3, e.tup k4, k5⟩
theorem StepV.least {H : Hp} {as : List Addr} {xs : List PR} {w : List Int} {v : V} (h : StepV H as xs w v) : ∃ o, LeastIs (rwsM xs) w o ∧ (o = none ↔ v = .non) := by
  rcases h with ⟨h1, h2⟩ | ⟨b, p, h1, h2, _⟩
  · exact ⟨none, h2, fun _ => h1, fun _ => rfl⟩
  · exact ⟨some p, h2, (fun z => nomatch z), fun z => by rw [h1] at z; cases z⟩
def StepsAt (H : Hp) (d : Addr) (as : List Addr) (xs : List PR) (W : List (List Int)) : Prop := ∃ vs : List V, H d = some (.dT ((W.map keyW).zip vs)) ∧ vs.length = W.length ∧ ∀ (i : Nat) w v, W[i]? = some w → vs[i]? = some v → StepV H as xs w v
theorem nodup_keyW {W : List (List Int)} (h : W.Nodup) : (W.map keyW).Nodup := by
  rw [List.nodup_iff_pairwise_ne] at h ⊢
  rw [List.pairwise_map]
  exact h.imp fun ne z => ne (keyW_inj z)
theorem mem_keyW {W : List (List Int)} {w : List Int} (h : w ∉ W) : keyW w ∉ W.map keyW := fun z => by
  obtain ⟨u, hu, e⟩ := List.mem_map.mp z
  rw [keyW_inj e] at hu
  exact h hu
theorem StepsAt.ke {H H' : Hp} (e : Ke H H') {d : Addr} {as : List Addr} {xs : List PR} {W : List (List Int)} (h : StepsAt H d as xs W) : StepsAt H' d as xs W := by
  obtain ⟨vs, h1, h2, h3⟩ := h
  exact ⟨vs, e _ _ h1 (fun _ z => nomatch z), h2, fun i w v a b => (h3 i w v a b).ke e⟩
/-- what the dict gives -/
theorem StepsAt.val {H : Hp} {d : Addr} {as : List Addr} {xs : List PR} {W : List (List Int)} (nd : W.Nodup) (h : StepsAt H d as xs W) : ∃ kvs, H d = some (.dT kvs) ∧ (∀ w, w ∉ W → valV kvs (keyW w) = none) ∧ ∀ w, w ∈ W → ∃ v, valV kvs (keyW w) = some v ∧ StepV H as xs w v := by
  obtain ⟨vs, h1, h2, h3⟩ := h
  refine ⟨_, h1, fun w hw => valV_zip_none (mem_keyW hw), fun w hw => ?_⟩
  obtain ⟨i, hi, e⟩ := List.getElem_of_mem hw
  have g1 : W[i]? = some w := by rw [List.getElem?_eq_getElem hi, e]
  have g2 : vs[i]? = some (vs[i]'(by omega)) := List.getElem?_eq_getElem (by omega)
  exact ⟨_, valV_zip (nodup_keyW nd) (by rw [List.getElem?_map, g1]; rfl) g2, h3 i w _ g1 g2⟩
theorem StepsAt.put {H H' : Hp} {d : Addr} {as : List Addr} {xs : List PR} {W : List (List Int)} {w : List Int} {v : V} {kvs : List (List Key × V)} (h : StepsAt H d as xs W) (hn : w ∉ W) (hd : H d = some (.dT kvs)) (e : Ke H H') (hv : StepV H' as xs w v) : StepsAt (upd H' d (.dT (putK kvs (keyW w) v))) d as xs (W ++ [w]) := by
  obtain ⟨vs, h1, h2, h3⟩ := h
  rw [hd] at h1
  injection Option.some.inj h1 with h1
  subst h1
  have e2 : ∀ b o, H' b = some (.tup o) → upd H' d (.dT (putK ((W.map keyW).zip vs) (keyW w) v)) b = some (.tup o) := fun b o z => by
    rw [upd_ne (ne_of z (e _ _ hd (fun _ z => nomatch z)) (fun z => nomatch z))]
    exact z
  have mv2 : ∀ {w' v'}, StepV H' as xs w' v' → StepV (upd H' d (.dT (putK ((W.map keyW).zip vs) (keyW w) v))) as xs w' v' := fun {w' v'} h => by
    rcases h with h | ⟨b, p, h1, h2, h3⟩
    · exact .inl h
    · refine .inr ⟨b, p, h1, h2, ?_⟩
      rcases h3 with ⟨k1, k2⟩ | ⟨k1, i, r, x, k2, k3, k4, k5⟩
      · exact .inl ⟨k1, e2 _ _ k2⟩
      · exact .inr ⟨k1, i, r, x, k2, k3, e2 _ _ k4, k5⟩
  refine ⟨vs ++ [v], ?_, by rw [List.length_append, List.length_append, h2]; rfl, fun i u y hu hy => ?_⟩
  · rw [upd_same, putK_new v (valV_zip_none (mem_keyW hn)), List.map_append, List.zip_append (by rw [List.length_map, h2])]
    rfl
  · by_cases z : i < W.length
    · rw [List.getElem?_append_left z] at hu
      rw [List.getElem?_append_left (by omega)] at hy
      exact mv2 ((h3 i u y hu hy).ke e)
    · rw [List.getElem?_append_right (by omega)] at hu
      rw [List.getElem?_append_right (by omega)] at hy
      rw [h2] at hy
      have ei : i - W.length = 0 := by
        rcases Nat.eq_zero_or_pos (i - W.length) with z | z
        · exact z
        · rw [List.getElem?_eq_none (by rw [List.length_singleton]; omega)] at hu
          cases hu
      rw [ei] at hu hy
      cases Option.some.inj hu
      cases Option.some.inj hy
      exact mv2 hv
def sp_best_step : Sp := fun vs H Q _ => ∃ (la pa d : Addr) (w : List Int) (as : List Addr) (xs : List PR) (W : List (List Int)), vs = [.ref la, .ref pa, .ref d] ∧ H la = some (LI w) ∧ H pa = some (.lst (as.map V.ref)) ∧ Al (PRowAt H) as xs ∧ StepsAt H d as xs W ∧ W.Nodup ∧ NN (rwsM xs) ∧ w.length ≤ 1000 ∧ w ∉ W ∧ (∀ x ∈ rwsM xs, restM w x.1 ≠ w → restM w x.1 ∈ W) ∧ (∃ (i : Nat) (n : Int), w[i]? = some n ∧ 0 < n) ∧ anyI w = true ∧
  ∀ H' v, Same H H' → StepV H' as xs w v → Q v H'
section
variable {P : Program} {w : World} {K : PySem.W.Frag} {mg : Str → Option Value} {base : Heap} {T : List Addr}
/-- what is best so far -/
def BestV (H : Hp) (as : List Addr) (xs : List PR) (w : List Int) (n : Nat) (v : V) : Prop := ∃ o, BestOf (rwsM xs) w ((rwsM xs).take n) o ∧ ((o = none ∧ v = .non) ∨ ∃ (p : Int) (b : Addr), o = some p ∧ v = .ref b ∧ ∃ (i : Nat) (r : Addr) (x : PR), as[i]? = some r ∧ xs[i]? = some x ∧ H b = some (.tup [.int p, .ref r]) ∧ restM w x.2.1 ≠ w ∧ LeastIs (rwsM xs) (restM w x.2.1) (some (p - x.2.2)) ∧ FirstR xs w p i)
theorem BestV.same {H H' : Hp} (s : Same H H') {as : List Addr} {xs : List PR} {w : List Int} {n : Nat} {v : V} (h : BestV H as xs w n v) : BestV H' as xs w n v := by
  obtain ⟨o, h1, h2⟩ := h
  refine ⟨o, h1, ?_⟩
  rcases h2 with h2 | ⟨p, b, k1, k2, i, r, x, k3, k4, k5, k6⟩
  · exact .inl h2
  · exact .inr ⟨p, b, k1, k2, i, r, x, k3, k4, s _ _ k5, k6⟩
theorem ok_best_step {f f1 f2 : Addr} {fd fd1 fd2 : FuncData} {k : Nat} (M : Names mg) (D : Def K mg "best_step" s_best_step ["less", "priced", "steps"] f fd) (D_rest : Def K mg "rest" s_rest ["want", "content"] f1 fd1) (D_had : Def K mg "had" s_had ["content", "thing"] f2 fd2) : FnOk P w K mg base CX0 (k + 3) f fd ["less", "priced", "steps"] sp_best_step := by
  have G_rest : FnOk P w K mg base CX0 (k + 2) f1 fd1 ["want", "content"] (sp_rest K) := ok_rest M D_rest D_had
  refine D.F.ok sc_best_step (fun vs H Q E h => ?_) (fun cdv A outer s H vs Q E hr h => ?_)
  · obtain ⟨la, pa, d, w, as, xs, W, rfl, _⟩ := h
    rfl
  · obtain ⟨la, pa, d, w, as, xs, W, rfl, hla, hpa, al, hst, nd, nn, hwl, hwn, hin, ⟨ip, np, hip, hpos⟩, hany, q⟩ := h
    have lal := al.len
    refine ⟨_, (pss_cons (ps_set (i := 3) sc_best_step.nd rfl (Or.inl rfl) pe_non)
  (pss_cons (ps_for PassesOwn.never rfl (pi_list (pv 1)) (pg_name (i := 4) sc_best_step.nd rfl (Or.inl rfl))
   (pss_cons (ps_asg (pv 4) (pg_tup rfl (pgs_cons (pg_name (i := 6) sc_best_step.nd rfl (Or.inl rfl)) (pgs_cons (pg_name (i := 7) sc_best_step.nd rfl (Or.inl rfl)) (pgs_cons (pg_name (i := 8) sc_best_step.nd rfl (Or.inl rfl)) pgs_nil)))))
  (pss_cons (ps_set (i := 5) sc_best_step.nd rfl (Or.inl rfl) (pe_dget1 (hu_of hr) (pv 2) (pe_tupleOf (by rfl) M.tuple (pe_call G_rest hr (by rfl) D_rest.g D_rest.F.kp D_rest.b .nil pass0 (pa_cons (pv 0) (pa_cons (pv 7) pa_nil)))) ⟨rfl, rfl, rfl, rfl⟩))
  (pss_one (ps_if (PW.pt (pw_and (pt_cmpR op_notN (pv 5) pe_non (nomark _)) (pw_and1 (PW.pt (pw_or (pt_cmpR op_isN (pv 3) pe_non (nomark _)) (pw_or1 (pt_cmpR op_lt (pe_op op_add (pv 8) (pe_ix ix_tup (pv 5) pe_int (fun _ _ => rfl))) (pe_ix ix_tup (pv 3) pe_int (fun _ _ => rfl)) (nomark _))))))))
   (pss_one (ps_set (i := 3) sc_best_step.nd rfl (Or.inl rfl) (pe_tup (pa_cons (pe_op op_add (pv 8) (pe_ix ix_tup (pv 5) pe_int (fun _ _ => rfl))) (pa_cons (pv 4) pa_nil)))))
   pss_nil)))))
  (pss_one (ps_ret (pv 3))))), ?_⟩
    refine ⟨_, rfl, pa, rfl, ⟨_, SqL.of hpa⟩, for_list (K := K) (a := pa) (xs := as.map V.ref) (fun i σ H' => ∃ v y4 y5 y6 y7 y8, σ = [some (.ref la), some (.ref pa), some (.ref d), some v, y4, y5, y6, y7, y8] ∧ Same H H' ∧ BestV H' as xs w i v) ⟨.non, none, none, none, none, none, rfl, fun _ _ e => e, none, fun r hr => by simp at hr, .inl ⟨rfl, rfl⟩⟩ (fun i σ H' _ hp => ?_) (fun i x σ H1 hx hp => ?_) (fun σ H1 hp => ?_)⟩
    · obtain ⟨_, _, _, _, _, _, _, s1, _⟩ := hp
      exact SqL.of (s1 _ _ hpa)
    · obtain ⟨v, y4, y5, y6, y7, y8, rfl, s1, bv⟩ := hp
      rw [List.getElem?_map] at hx
      cases hu : as[i]? with
      | none => rw [hu] at hx; cases hx
      | some u =>
        rw [hu] at hx
        cases Option.some.inj hx
        obtain ⟨x, hxx, lx, cx, hu1, hl1, hc1⟩ := al.get hu
        have hrw : (rwsM xs)[i]? = some x.2 := by rw [List.getElem?_map, hxx]; rfl
        have hmem : x.2 ∈ rwsM xs := List.mem_of_getElem? hrw
        refine ⟨_, rfl, u, _, rfl, SqT.of (s1 _ _ hu1), rfl, _, _, rfl, _, _, rfl, _, _, rfl, rfl, ?_⟩
        obtain ⟨kvs, hkv, hno, hyes⟩ := hst.val nd
        refine ⟨_, rfl, d, rfl, .inr ⟨kvs, .inl (s1 _ _ hkv)⟩, _, rfl, _, rfl, la, cx, w, x.2.1, rfl, SqL.of (s1 _ _ hla), SqL.of (s1 _ _ hc1), hwl, fun H2 r2 s2 nr2 hr2 => ?_⟩
        refine .inl ⟨r2, _, rfl, SqL.of hr2, fun t3 nt3 => ?_⟩
        have s3 := s2.trans (same_upd (o := .tup ((restM w x.2.1).map V.int)) nt3)
        have hkv3 := s3 _ _ (s1 _ _ hkv)
        have ht3 : upd H2 t3 (.tup ((restM w x.2.1).map V.int)) t3 = some (.tup ((keyW (restM w x.2.1)).map kV)) := by rw [upd_same, keyW_kV]
        generalize upd H2 t3 (.tup ((restM w x.2.1).map V.int)) = H3 at s3 hkv3 ht3 ⊢
        refine ⟨_, DGet.t hkv3 ht3, ?_⟩
        have s13 := s1.trans s3
        have bv3 := bv.same s3
        obtain ⟨o, ho, hv⟩ := bv3
        have sn := ho.snoc (r := x.2)
        have etk : (rwsM xs).take (i + 1) = (rwsM xs).take i ++ [x.2] := take_succ_at hrw
        by_cases hne : restM w x.2.1 = w
        · rw [hne, hno w hwn]
          refine ⟨_, rfl, rfl, false, rfl, ?_⟩
          refine ⟨v, _, _, _, _, _, rfl, s13, o, ?_, hv⟩
          rw [etk]
          exact sn.1 hne
        · obtain ⟨vb, hvb, sv⟩ := hyes _ (hin _ hmem hne)
          rw [hvb]
          rcases sv with ⟨rfl, lst⟩ | ⟨b, g, rfl, lst, way⟩
          · refine ⟨_, rfl, rfl, false, rfl, ?_⟩
            refine ⟨v, _, _, _, _, _, rfl, s13, o, ?_, hv⟩
            rw [etk]
            exact sn.2.1 lst
          · have hb : ∃ y, H b = some (.tup [.int g, y]) := by
              rcases way with ⟨_, z⟩ | ⟨_, _, _, _, _, _, z, _⟩
              · exact ⟨_, z⟩
              · exact ⟨_, z⟩
            obtain ⟨yb, hb⟩ := hb
            have hb3 := s13 _ _ hb
            refine ⟨_, rfl, rfl, true, rfl, ?_⟩
            have firsts : (∀ p, o = some p → x.2.2 + g < p) → FirstR xs w (x.2.2 + g) i := fun lt j y hj hy ne => by
              refine first_of ho lt y.2 ?_ ne
              rw [List.mem_take_iff_getElem]
              obtain ⟨h1, h2⟩ := List.getElem?_eq_some_iff.mp hy
              have hi := (List.getElem?_eq_some_iff.mp hrw).1
              refine ⟨j, by omega, ?_⟩
              rw [List.getElem_map, h2]
            rcases hv with ⟨rfl, rfl⟩ | ⟨p, b', rfl, rfl, j, r', x', k1, k2, k3, k4, k5⟩
            · refine ⟨_, rfl, rfl, true, rfl, ?_⟩
              refine ⟨_, rfl, _, rfl, b, _, _, _, rfl, rfl, SqT.of hb3, atI_nat (j := 0) rfl, _, _, rfl, rfl, _, rfl, by show 2 ≤ sizeLine; decide, fun t4 nt4 => ?_⟩
              refine ⟨.ref t4, _, _, _, _, _, rfl, s13.trans (same_upd nt4), some (x.2.2 + g), ?_, .inr ⟨_, t4, rfl, rfl, i, u, x, hu, hxx, upd_same, hne, ?_, ?_⟩⟩
              · rw [etk]
                exact sn.2.2.1 g hne lst (fun p z => nomatch z)
              · rw [show x.2.2 + g - x.2.2 = g by omega]
                exact lst
              · exact firsts (fun p z => nomatch z)
            · refine ⟨_, rfl, rfl, false, rfl, ?_⟩
              refine ⟨_, rfl, _, rfl, b, _, _, _, rfl, rfl, SqT.of hb3, atI_nat (j := 0) rfl, _, _, rfl, rfl, _, rfl, b', _, _, _, rfl, rfl, SqT.of k3, atI_nat (j := 0) rfl, _, _, rfl, rfl, _, rfl, ite2 (fun c => ?_) (fun c => ?_)⟩
              · have c' : x.2.2 + g < p := of_decide_eq_true c
                refine ⟨_, rfl, _, rfl, b, _, _, _, rfl, rfl, SqT.of hb3, atI_nat (j := 0) rfl, _, _, rfl, rfl, _, rfl, by show 2 ≤ sizeLine; decide, fun t4 nt4 => ?_⟩
                refine ⟨.ref t4, _, _, _, _, _, rfl, s13.trans (same_upd nt4), some (x.2.2 + g), ?_, .inr ⟨_, t4, rfl, rfl, i, u, x, hu, hxx, upd_same, hne, ?_, ?_⟩⟩
                · rw [etk]
                  exact sn.2.2.1 g hne lst (fun p' z => by cases z; exact c')
                · rw [show x.2.2 + g - x.2.2 = g by omega]
                  exact lst
                · exact firsts (fun p' z => by cases z; exact c')
              · refine ⟨.ref b', _, _, _, _, _, rfl, s13, some p, ?_, .inr ⟨p, b', rfl, rfl, j, r', x', k1, k2, k3, k4, k5⟩⟩
                rw [etk]
                exact sn.2.2.2 g p lst rfl fun z => c (decide_eq_true z)
    · obtain ⟨v, y4, y5, y6, y7, y8, rfl, s1, o, ho, hv⟩ := hp
      refine ⟨_, rfl, q H1 v s1 ?_⟩
      rw [List.length_map, lal, List.take_of_length_le (by rw [List.length_map]; exact Nat.le_refl _)] at ho
      have li : LeastIs (rwsM xs) w o := leastIs_step nn hip hpos (fun r hr ne => by
        obtain ⟨kvs, _, _, hyes⟩ := hst.val nd
        obtain ⟨_, _, sv⟩ := hyes _ (hin r hr ne)
        obtain ⟨o, h, _⟩ := sv.least
        exact ⟨o, h⟩) ho
      rcases hv with ⟨rfl, rfl⟩ | ⟨p, b, rfl, rfl, way⟩
      · exact .inl ⟨rfl, li⟩
      · exact .inr ⟨b, p, rfl, li, .inr ⟨hany, way⟩⟩
end
/-! ### lesser wants: which, and in which order -/
def lexP : List Int → List Int → Prop
  | a :: r, b :: q => a < b ∨ (a = b ∧ lexP r q)
  | _, _ => False
theorem lexP_asymm : ∀ {a b : List Int}, lexP a b → lexP b a → False
  | [], _, h, _ => h.elim
  | _ :: _, [], h, _ => h.elim
  | a :: r, b :: q, h, k => by
    rcases h with h | ⟨h1, h2⟩
    · rcases k with k | ⟨k1, _⟩ <;> omega
    · rcases k with k | ⟨_, k2⟩
      · omega
      · exact lexP_asymm h2 k2
def LeW : List Int → List Int → Prop
  | [], [] => True
  | a :: r, b :: w => 0 ≤ a ∧ a ≤ b ∧ LeW r w
  | _, _ => False
theorem LeW.len : ∀ {r w : List Int}, LeW r w → r.length = w.length
  | [], [], _ => rfl
  | [], _ :: _, h => h.elim
  | _ :: _, [], h => h.elim
  | _ :: _, _ :: _, h => by rw [List.length_cons, List.length_cons, LeW.len h.2.2]
theorem LeW.nonneg : ∀ {r w : List Int}, LeW r w → ∀ x ∈ r, 0 ≤ x
  | [], [], _, _, hx => nomatch hx
  | [], _ :: _, h, _, _ => h.elim
  | _ :: _, [], h, _, _ => h.elim
  | a :: r, _ :: _, h, x, hx => by
    rcases List.mem_cons.mp hx with rfl | hx
    · exact h.1
    · exact LeW.nonneg h.2.2 x hx
theorem LeW.trans : ∀ {a b c : List Int}, LeW a b → LeW b c → LeW a c
  | [], [], [], _, _ => True.intro
  | [], [], _ :: _, _, h => h.elim
  | [], _ :: _, _, h, _ => h.elim
  | _ :: _, [], _, h, _ => h.elim
  | _ :: _, _ :: _, [], _, h => h.elim
  | _ :: _, _ :: _, _ :: _, h, k => ⟨h.1, Int.le_trans h.2.1 k.2.1, LeW.trans h.2.2 k.2.2⟩
theorem LeW.refl : ∀ {w : List Int}, (∀ x ∈ w, 0 ≤ x) → LeW w w
  | [], _ => True.intro
  | a :: r, h => ⟨h a List.mem_cons_self, Int.le_refl _, LeW.refl fun x hx => h x (List.mem_cons_of_mem _ hx)⟩
theorem LeW.small : ∀ {r w : List Int}, LeW r w → Small w → Small r
  | [], [], _, _ => fun x hx => nomatch hx
  | [], _ :: _, h, _ => h.elim
  | _ :: _, [], h, _ => h.elim
  | a :: r, b :: w, h, sm => fun x hx => by
    have hb := sm b List.mem_cons_self
    rcases List.mem_cons.mp hx with rfl | hx
    · exact ⟨h.1, by have := h.2.1; omega⟩
    · exact LeW.small h.2.2 (fun y hy => sm y (List.mem_cons_of_mem _ hy)) x hx
theorem LeW.get : ∀ {r w : List Int} {i : Nat} {n : Int}, LeW r w → r[i]? = some n → ∃ m, w[i]? = some m ∧ 0 ≤ n ∧ n ≤ m
  | [], [], _, _, _, e => by simp at e
  | [], _ :: _, _, _, h, _ => h.elim
  | _ :: _, [], _, _, h, _ => h.elim
  | a :: r, b :: w, 0, n, h, e => by cases Option.some.inj e; exact ⟨b, rfl, h.1, h.2.1⟩
  | a :: r, b :: w, i + 1, n, h, e => LeW.get (i := i) h.2.2 e
theorem upto_mem {n a : Int} : a ∈ upto n ↔ 0 ≤ a ∧ a ≤ n := by
  unfold upto
  rw [List.mem_map]
  constructor
  · rintro ⟨i, hi, rfl⟩
    have := List.mem_range.mp hi
    omega
  · rintro ⟨h1, h2⟩
    exact ⟨a.toNat, List.mem_range.mpr (by omega), by omega⟩
theorem lesserF_mem : ∀ {w r : List Int}, r ∈ lesserF w ↔ LeW r w
  | [], r => by
    show r ∈ [[]] ↔ _
    rw [List.mem_singleton]
    cases r with
    | nil => exact ⟨fun _ => True.intro, fun _ => rfl⟩
    | cons a q => exact ⟨(fun z => nomatch z), fun h => h.elim⟩
  | n :: w, r => by
    show r ∈ (upto n).flatMap (fun a => (lesserF w).map (a :: ·)) ↔ _
    rw [List.mem_flatMap]
    constructor
    · rintro ⟨a, ha, hr⟩
      obtain ⟨s, hs, rfl⟩ := List.mem_map.mp hr
      have := upto_mem.mp ha
      exact ⟨this.1, this.2, lesserF_mem.mp hs⟩
    · intro h
      cases r with
      | nil => exact h.elim
      | cons a s => exact ⟨a, upto_mem.mpr ⟨h.1, h.2.1⟩, List.mem_map.mpr ⟨s, lesserF_mem.mpr h.2.2, rfl⟩⟩
theorem upto_rise (n : Int) : (upto n).Pairwise (· < ·) := by
  unfold upto
  rw [List.pairwise_map]
  exact List.pairwise_lt_range.imp fun h => by omega
theorem lesserF_sorted : ∀ w : List Int, (lesserF w).Pairwise lexP
  | [] => List.pairwise_singleton _ _
  | n :: w => by
    show ((upto n).flatMap (fun a => (lesserF w).map (a :: ·))).Pairwise lexP
    rw [List.pairwise_flatMap]
    refine ⟨fun a _ => ?_, (upto_rise n).imp fun {a b} h x hx y hy => ?_⟩
    · rw [List.pairwise_map]
      exact (lesserF_sorted w).imp fun h => .inr ⟨rfl, h⟩
    · obtain ⟨s, _, rfl⟩ := List.mem_map.mp hx
      obtain ⟨t, _, rfl⟩ := List.mem_map.mp hy
      exact .inl h
theorem lesserF_nodup (w : List Int) : (lesserF w).Nodup := by
  rw [List.nodup_iff_pairwise_ne]
  exact (lesserF_sorted w).imp fun {a b} h z => by rw [z] at h; exact lexP_asymm h h
theorem restM_step (n : Int) (w c : List Int) : restM (n :: w) c = (if n - hadM c 0 > 0 then n - hadM c 0 else 0) :: restM w c.tail := by
  unfold restM
  rw [List.length_cons, List.range_succ_eq_map, List.map_cons, List.map_map]
  congr 1
  refine List.map_congr_left fun i _ => ?_
  have e : hadM c (i + 1) = hadM c.tail i := by
    cases c with
    | nil => rfl
    | cons a q => rfl
  show (if w.getD i 0 - hadM c (i + 1) > 0 then w.getD i 0 - hadM c (i + 1) else 0) = _
  rw [e]
theorem rest_le : ∀ {w c : List Int}, (∀ x ∈ w, 0 ≤ x) → (∀ x ∈ c, 0 ≤ x) → LeW (restM w c) w ∧ (restM w c ≠ w → lexP (restM w c) w)
  | [], c, _, _ => ⟨True.intro, fun h => absurd rfl h⟩
  | n :: w, c, hw, hc => by
    have h0 := hw n List.mem_cons_self
    have hn := had_nonneg hc 0
    obtain ⟨i1, i2⟩ := rest_le (w := w) (c := c.tail) (fun x hx => hw x (List.mem_cons_of_mem _ hx)) (fun x hx => hc x (List.mem_of_mem_tail hx))
    rw [restM_step]
    refine ⟨⟨by split <;> omega, by split <;> omega, i1⟩, fun h => ?_⟩
    by_cases e : (if n - hadM c 0 > 0 then n - hadM c 0 else 0) = n
    · refine .inr ⟨e, i2 fun z => h ?_⟩
      rw [e, z]
    · refine .inl ?_
      split at e <;> split <;> omega
theorem lesser_before {ws w r : List Int} {i : Nat} (hw : (lesserF ws)[i]? = some w) (hr : LeW r ws) (hlt : lexP r w) : r ∈ (lesserF ws).take i := by
  obtain ⟨j, hj, e⟩ := List.getElem_of_mem (lesserF_mem.mpr hr)
  obtain ⟨hi, e2⟩ := List.getElem?_eq_some_iff.mp hw
  rcases Nat.lt_or_ge j i with z | z
  · rw [List.mem_take_iff_getElem]
    exact ⟨j, by omega, e⟩
  · exfalso
    rcases Nat.lt_or_eq_of_le z with z | z
    · have := List.pairwise_iff_getElem.mp (lesserF_sorted ws) i j hi hj z
      rw [e, e2] at this
      exact lexP_asymm hlt this
    · subst z
      rw [← e2, e] at hlt
      exact lexP_asymm hlt hlt
theorem lesser_not_before {ws w : List Int} {i : Nat} (hw : (lesserF ws)[i]? = some w) : w ∉ (lesserF ws).take i := fun h => by
  obtain ⟨hi, e⟩ := List.getElem?_eq_some_iff.mp hw
  obtain ⟨j, hj, e2⟩ := List.mem_take_iff_getElem.mp h
  have := List.pairwise_iff_getElem.mp (lesserF_sorted ws) j i (by omega) hi (by omega)
  rw [e, e2] at this
  exact lexP_asymm this this
theorem anyI_pos {w : List Int} (h0 : ∀ x ∈ w, 0 ≤ x) (h : anyI w = true) : ∃ (i : Nat) (n : Int), w[i]? = some n ∧ 0 < n := by
  obtain ⟨n, hn, h1⟩ := List.any_eq_true.mp h
  obtain ⟨i, hi, e⟩ := List.getElem_of_mem hn
  have := h0 n hn
  have ne : n ≠ 0 := fun z => by rw [z] at h1; cases h1
  exact ⟨i, n, by rw [List.getElem?_eq_getElem hi, e], by omega⟩
theorem anyI_zero {w : List Int} (h : anyI w = false) : ∀ x ∈ w, x = 0 := fun x hx => by
  have := List.any_eq_false.mp h x hx
  exact Classical.byContradiction fun z => this (by show (x != 0) = true; exact bne_iff_ne.mpr z)
def sp_all_steps : Sp := fun vs H Q _ => ∃ (pa wa : Addr) (ws : List Int) (as : List Addr) (xs : List PR), vs = [.ref pa, .ref wa] ∧ H pa = some (.lst (as.map V.ref)) ∧ Al (PRowAt H) as xs ∧ H wa = some (LI ws) ∧ ws.length ≤ 4 ∧ Small ws ∧ NN (rwsM xs) ∧
  ∀ H' d, Same H H' → H d = none → StepsAt H' d as xs (lesserF ws) → Q (.ref d) H'
section
variable {P : Program} {w : World} {K : PySem.W.Frag} {mg : Str → Option Value} {base : Heap} {T : List Addr}
theorem ok_all_steps {f f1 f2 f3 f4 : Addr} {fd fd1 fd2 fd3 fd4 : FuncData} {k : Nat} (M : Names mg) (D : Def K mg "all_steps" s_all_steps ["priced", "want"] f fd) (D_best_step : Def K mg "best_step" s_best_step ["less", "priced", "steps"] f1 fd1) (D_rest : Def K mg "rest" s_rest ["want", "content"] f2 fd2) (D_had : Def K mg "had" s_had ["content", "thing"] f3 fd3) (D_lesser : Def K mg "lesser" s_lesser ["want"] f4 fd4) : FnOk P w K mg base CX0 (k + 4) f fd ["priced", "want"] sp_all_steps := by
  have G_best_step : FnOk P w K mg base CX0 (k + 3) f1 fd1 ["less", "priced", "steps"] sp_best_step := ok_best_step M D_best_step D_rest D_had
  have G_lesser : FnOk P w K mg base CX0 (k + 3) f4 fd4 ["want"] (sp_lesser K) := ok_lesser M D_lesser
  refine D.F.ok sc_all_steps (fun vs H Q E h => ?_) (fun cdv A outer s H vs Q E hr h => ?_)
  · obtain ⟨pa, wa, ws, as, xs, rfl, _⟩ := h
    rfl
  · obtain ⟨pa, wa, ws, as, xs, rfl, hpa, al, hwa, h4, sm, nn, q⟩ := h
    refine ⟨_, (pss_cons (ps_set (i := 2) sc_all_steps.nd rfl (Or.inl rfl) pe_dnewT)
  (pss_cons (ps_for PassesOwn.never rfl (pi_list (pe_call G_lesser hr (by rfl) D_lesser.g D_lesser.F.kp D_lesser.b .nil pass0 (pa_cons (pv 1) pa_nil))) (pg_name (i := 3) sc_all_steps.nd rfl (Or.inl rfl))
   (pss_one (ps_dput (hu_of hr) (pv 2) (pe_tupleOf (by rfl) M.tuple (pv 3)) (pe_ifExp (pt_val (pe_callB (cr_anyI rfl) (by rfl) M.any (by decide +kernel) (pa_cons (pv 3) pa_nil))) (pe_call G_best_step hr (by rfl) D_best_step.g D_best_step.F.kp D_best_step.b .nil pass0 (pa_cons (pv 3) (pa_cons (pv 0) (pa_cons (pv 2) pa_nil)))) (pe_tup (pa_cons pe_int (pa_cons pe_non pa_nil)))) rfl)))
  (pss_one (ps_ret (pv 2))))), ?_⟩
    refine fun d nd => ?_
    have s1 := same_upd (o := .dT []) nd
    have hd1 : upd H d (.dT []) d = some (.dT []) := upd_same
    generalize upd H d (.dT []) = H1 at s1 hd1 ⊢
    refine ⟨_, rfl, wa, ws, rfl, SqL.of (s1 _ _ hwa), h4, sm, fun H2 L s2 nL mk => ?_⟩
    obtain ⟨bs, hL, hbl, nbs, hb⟩ := mk
    have nLd : L ≠ d := fun z => by rw [z, hd1] at nL; cases nL
    have big := lesserF_le4 sm h4
    refine ⟨L, rfl, ⟨_, SqL.of hL⟩, for_list (K := K) (a := L) (xs := bs.map V.ref) (fun i σ H' => ∃ y3, σ = [some (.ref pa), some (.ref wa), some (.ref d), y3] ∧ Same H H' ∧ SameBut d H2 H' ∧ StepsAt H' d as xs ((lesserF ws).take i)) ⟨none, rfl, s1.trans s2, .refl _ _, [], s2 _ _ hd1, rfl, fun i w v hw => by simp at hw⟩ (fun i σ H' _ hp => ?_) (fun i x σ H3 hx hp => ?_) (fun σ H3 hp => ?_)⟩
    · obtain ⟨_, _, _, s3, _⟩ := hp
      exact SqL.of (s3 _ _ nLd hL)
    · obtain ⟨y3, rfl, s3, sb3, st⟩ := hp
      rw [List.getElem?_map] at hx
      cases hu : bs[i]? with
      | none => rw [hu] at hx; cases hx
      | some u =>
        rw [hu] at hx
        cases Option.some.inj hx
        have hi : i < bs.length := (List.getElem?_eq_some_iff.mp hu).1
        obtain ⟨w, hw⟩ : ∃ w, (lesserF ws)[i]? = some w := ⟨_, List.getElem?_eq_getElem (by omega)⟩
        obtain ⟨nu, nuL, hu2⟩ := hb i u w hu hw
        have nud : u ≠ d := fun z => by rw [z, hd1] at nu; cases nu
        have hu3 := sb3 _ _ nud hu2
        have lew : LeW w ws := lesserF_mem.mp (List.mem_of_getElem? hw)
        have w0 := lew.nonneg
        have wl := lew.len
        have ndp : ((lesserF ws).take i).Nodup := (lesserF_nodup ws).sublist (List.take_sublist _ _)
        obtain ⟨kvs, hkv, _, _⟩ := st.val ndp
        have lkv : kvs.length ≤ 10000 := by
          obtain ⟨vs, e1, e2, _⟩ := id st
          rw [hkv] at e1
          injection Option.some.inj e1 with e1
          rw [e1, List.length_zip, List.length_map, List.length_take]
          omega
        -- the end of a step
        have fin : ∀ (H4 : Hp) (v : V), Same H3 H4 → StepV H4 as xs w v → ∃ x H5, x = V.ref d ∧ H5 = H4 ∧ (∃ p xs', (V.ref u = .ref p ∧ SqL K H4 p xs' ∧ ∀ q, H4 q = none → ∃ a' H6, x = .ref a' ∧ DPut (upd H4 q (.tup xs')) a' (.ref q) v H6 ∧ ∃ y3, ([some (V.ref pa), some (.ref wa), some (.ref d), some (.ref u)] : L2.St) = [some (.ref pa), some (.ref wa), some (.ref d), y3] ∧ Same H H6 ∧ SameBut d H2 H6 ∧ StepsAt H6 d as xs ((lesserF ws).take (i + 1)))) := by
          intro H4 v s4 hv
          refine ⟨_, _, rfl, rfl, u, _, rfl, SqL.of (s4 _ _ hu3), fun t nt => ?_⟩
          have s5 := s4.trans (same_upd (o := .tup (w.map V.int)) nt)
          have hkv5 := s5 _ _ hkv
          refine ⟨d, _, rfl, DPut.t hkv5 (k := keyW w) (by rw [keyW_kV]; exact upd_same) (szL' (by omega)), _, rfl, sm_new (s3.trans s5) nd, (sb3.trans (.of s5)).trans .upd, ?_⟩
          rw [take_succ_at hw]
          exact st.put (lesser_not_before hw) hkv (.of s5) (hv.ke (.of (same_upd nt)))
        refine ⟨_, rfl, u, w, rfl, SqL.of hu3, _, rfl, ite2 (fun c => ?_) (fun c => ?_)⟩
        · refine ⟨_, rfl, _, rfl, _, rfl, u, pa, d, w, as, xs, _, rfl, hu3, s3 _ _ hpa, al.imp fun r x h => h.ke (.of s3), st, ndp, nn, by omega, lesser_not_before hw, fun x hx ne => ?_, anyI_pos w0 c, c, fun H4 v s4 hv => ?_⟩
          · obtain ⟨r1, r2⟩ := rest_le (c := x.1) w0 (nn x hx).1
            exact lesser_before hw (r1.trans lew) (r2 ne)
          · obtain ⟨_, _, rfl, rfl, p, xs', e1, e2, e3⟩ := fin H4 v s4 hv
            exact ⟨_, rfl, _, rfl, .inl ⟨p, xs', e1, e2, e3⟩⟩
        · refine ⟨by show 2 ≤ sizeLine; decide, fun t nt => ?_⟩
          have c' : anyI w = false := by
            cases z : anyI w with
            | false => rfl
            | true => exact absurd z c
          obtain ⟨_, _, rfl, rfl, p, xs', e1, e2, e3⟩ := fin _ (.ref t) (same_upd (o := .tup [.int 0, .non]) nt) (.inr ⟨t, 0, rfl, leastIs_zero nn fun x hx => by rw [anyI_zero c' x hx]; exact Int.le_refl _, .inl ⟨c', upd_same⟩⟩)
          exact ⟨_, rfl, _, rfl, .inl ⟨p, xs', e1, e2, e3⟩⟩
    · obtain ⟨y3, rfl, s3, sb3, st⟩ := hp
      rw [List.length_map, hbl, List.take_length] at st
      exact ⟨_, rfl, q H3 d s3 nd st⟩
end
/-! ### sorted(xs) of data -/
theorem vals_refs : ∀ {as : List Addr} {its : List Value}, Vals (as.map V.ref) its → its = as.map Value.ref
  | [], _, h => by cases h; rfl
  | a :: r, _, h => by
    cases h with
    | cons h1 h2 =>
      cases h1
      rw [vals_refs h2]
      rfl
theorem refs_vals : ∀ (as : List Addr), Vals (as.map V.ref) (as.map Value.ref)
  | [] => .nil
  | a :: r => .cons rfl (refs_vals r)
theorem each_of {β : Type} {R : Addr → β → Prop} : ∀ {as : List Addr} {bs : List β}, Al R as bs → PySem.W.EachIs (fun v b => ∃ u, v = Value.ref u ∧ R u b) (as.map Value.ref) bs
  | [], [], _ => .nil
  | [], _ :: _, h => h.elim
  | _ :: _, [], h => h.elim
  | a :: _, _ :: _, h => .cons ⟨a, rfl, h.1⟩ (each_of h.2)
theorem of_each {β : Type} {R : Addr → β → Prop} : ∀ {out : List Value} {bs : List β}, PySem.W.EachIs (fun v b => ∃ u, v = Value.ref u ∧ R u b) out bs → ∃ as : List Addr, out = as.map Value.ref ∧ Al R as bs
  | _, _, .nil => ⟨[], rfl, True.intro⟩
  | _, _, .cons ⟨u, e, h⟩ t => by
    obtain ⟨as, e2, h2⟩ := of_each t
    exact ⟨u :: as, by rw [e, e2]; rfl, h, h2⟩
theorem al_zip {β : Type} {R : Addr → β → Prop} {Z : List (Addr × β)} : ∀ {as : List Addr} {bs : List β}, Al R as bs → (∀ q ∈ as.zip bs, q ∈ Z) → Al (fun u b => (u, b) ∈ Z) as bs
  | [], [], _, _ => True.intro
  | [], _ :: _, h, _ => h.elim
  | _ :: _, [], h, _ => h.elim
  | a :: as, b :: bs, h, z => ⟨z _ (by rw [List.zip_cons_cons]; exact List.mem_cons_self), al_zip h.2 fun q hq => z q (by rw [List.zip_cons_cons]; exact List.mem_cons_of_mem _ hq)⟩
theorem zip_al {β : Type} {R : Addr → β → Prop} : ∀ {as : List Addr} {bs : List β}, Al R as bs → ∀ u b, (u, b) ∈ as.zip bs → R u b
  | [], [], _, _, _, m => by simp at m
  | [], _ :: _, h, _, _, _ => h.elim
  | _ :: _, [], h, _, _, _ => h.elim
  | a :: as, b :: bs, h, u, c, m => by
    rw [List.zip_cons_cons] at m
    rcases List.mem_cons.mp m with e | m
    · cases e
      exact h.1
    · exact zip_al h.2 u c m
def rSortedD {β : Type} (K : PySem.W.Frag) (enc : β → PyData) : List V → Hp → VK → Prop := fun vs H Q => ∃ (a : Addr) (as : List Addr) (bs : List β), vs = [V.ref a] ∧ SqL K H a (as.map V.ref) ∧ Al (fun u b => Dp K H (.ref u) (enc b)) as bs ∧ PySem.W.AllAlike (bs.map enc) ∧ PySem.W.Sortable (bs.map enc) ∧ (∀ b ∈ bs, (enc b).depth ≤ 8) ∧
  ∀ (as' : List Addr) (p : Addr), H p = none → Al (fun u b => (u, b) ∈ as.zip bs) as' (bs.mergeSort (PySem.W.dataLe false enc)) → Q (.ref p) (upd H p (.lst (as'.map V.ref)))
theorem cr_sortedD {β : Type} {X : Cx} {enc : β → PyData} (hu : X.A.units + 64 < cLine) : CallR X (.builtin "sorted") (rSortedD X.K enc) := by
  intro pins s σ H vs us Q I r h
  obtain ⟨a, as, bs, rfl, hs, al, hal, hk, hd, q⟩ := h
  obtain ⟨its, rv, hl, hz⟩ := I.list hs
  rw [Vals.ref1 r]
  have e := vals_refs rv
  subst e
  have lal := al.len
  rw [List.length_map] at hz
  refine PySem.W.sorted_data (R := fun v b => ∃ u, v = Value.ref u ∧ (u, b) ∈ as.zip bs) (enc := enc) (bs := bs) hl.isList (each_of (al_zip al fun _ m => m)) (PySem.W.EachIs.mono (fun v b h => ?_) (each_of al)) hal hk (by omega) (fun b hb => ?_) (fun out ho eo => ?_)
  · obtain ⟨u, rfl, hu⟩ := h
    exact Dp.reads I _ _ _ hu rfl
  · have := hd b hb
    omega
  · obtain ⟨as', rfl, al'⟩ := of_each eo
    obtain ⟨ep, he'⟩ := PyProof.Rows.sortedAll_at s.heap (as.map Value.ref) (as'.map Value.ref).toArray
    have hlen : (as'.map V.ref).length ≤ sizeLine := by
      rw [List.length_map] at ho ⊢
      omega
    exact ⟨.ref _, upd H (s.heap.objs.size + 1) (.lst (as'.map V.ref)), I.laid (t' := s.toks) (fun _ _ => PyProof.Rows.sortedAll_old) (Nat.le_succ _) ⟨hlen, _, ep, refs_vals as', he'⟩, rfl, q _ _ (I.hok.fresh (Nat.le_succ _)) al'⟩
/-! ### the mathematics of choices -/
def selM : List Int → Nat → List Int
  | [], _ => []
  | p :: ps, b => if b % 2 = 1 then p :: selM ps (b / 2) else selM ps (b / 2)
def selN (ps : List Int) (b n : Nat) : List Int := ((List.range n).filter fun i => decide (b / 2 ^ i % 2 = 1)).map fun i => ps.getD i 0
def subsM (ps : List Int) : List (List Int) := (List.range (2 ^ ps.length)).map (selM ps)
theorem selN_all : ∀ (ps : List Int) (b : Nat), selN ps b ps.length = selM ps b
  | [], _ => rfl
  | p :: ps, b => by
    have ih := selN_all ps (b / 2)
    unfold selN at ih ⊢
    rw [List.length_cons, List.range_succ_eq_map, List.filter_cons, List.filter_map]
    have e : ((fun i => decide (b / 2 ^ i % 2 = 1)) ∘ Nat.succ) = fun i => decide (b / 2 / 2 ^ i % 2 = 1) := by
      funext i
      show decide (b / 2 ^ (i + 1) % 2 = 1) = _
      rw [Nat.pow_succ, Nat.mul_comm, Nat.div_div_eq_div_mul]
    rw [e]
    have t : List.map (fun i => (p :: ps).getD i 0) (List.map Nat.succ ((List.range ps.length).filter fun i => decide (b / 2 / 2 ^ i % 2 = 1))) = selM ps (b / 2) := by
      rw [List.map_map, ← ih]
      rfl
    show List.map _ (if decide (b / 2 ^ 0 % 2 = 1) = true then _ else _) = if b % 2 = 1 then _ else _
    rw [Nat.pow_zero, Nat.div_one]
    by_cases z : b % 2 = 1
    · rw [if_pos (decide_eq_true z), if_pos z, List.map_cons, t]
      rfl
    · rw [if_neg (by rw [decide_eq_true_eq]; exact z), if_neg z, t]
theorem selN_yes {ps : List Int} {b n : Nat} (h : b / 2 ^ n % 2 = 1) : selN ps b (n + 1) = selN ps b n ++ [ps.getD n 0] := by
  unfold selN
  rw [List.range_succ, List.filter_append, List.map_append]
  simp [h]
theorem selN_no {ps : List Int} {b n : Nat} (h : ¬ b / 2 ^ n % 2 = 1) : selN ps b (n + 1) = selN ps b n := by
  unfold selN
  rw [List.range_succ, List.filter_append, List.map_append]
  simp [h]
theorem selN_len (ps : List Int) (b n : Nat) : (selN ps b n).length ≤ n := by
  unfold selN
  rw [List.length_map]
  exact Nat.le_trans (List.length_filter_le _ _) (by rw [List.length_range]; exact Nat.le_refl _)
theorem selM_zero : ∀ ps : List Int, selM ps 0 = []
  | [] => rfl
  | _ :: ps => by
    show (if 0 % 2 = 1 then _ else selM ps (0 / 2)) = []
    rw [if_neg (by decide)]
    exact selM_zero ps
theorem range_two {α : Type} (f : Nat → α) : ∀ n : Nat, ((List.range (2 * n)).map f).Perm ((List.range n).map (fun j => f (2 * j)) ++ (List.range n).map (fun j => f (2 * j + 1)))
  | 0 => by simp
  | n + 1 => by
    have ih := range_two f n
    rw [show 2 * (n + 1) = 2 * n + 1 + 1 by omega, List.range_succ, List.range_succ, List.range_succ, List.map_append, List.map_append, List.map_append, List.map_append]
    simp only [List.map_cons, List.map_nil]
    refine ((ih.append_right _).append_right _).trans ?_
    rw [List.append_assoc, List.append_assoc, List.append_assoc]
    refine List.Perm.append_left _ ?_
    rw [← List.append_assoc, ← List.append_assoc]
    exact List.perm_append_comm.append_right _
theorem choices_head : ∀ ps : List Int, choicesM ps = [] :: (choicesM ps).tail
  | [] => rfl
  | _ :: _ => rfl
theorem subs_perm : ∀ ps : List Int, (subsM ps).Perm (choicesM ps)
  | [] => .refl _
  | p :: ps => by
    have ih := subs_perm ps
    have h1 : (subsM (p :: ps)).Perm (subsM ps ++ (subsM ps).map (p :: ·)) := by
      unfold subsM
      rw [List.length_cons, Nat.pow_succ, Nat.mul_comm]
      refine (range_two _ _).trans ?_
      rw [List.map_map]
      refine .of_eq ?_
      congr 1
      · refine List.map_congr_left fun j _ => ?_
        show (if 2 * j % 2 = 1 then _ else selM ps (2 * j / 2)) = _
        rw [if_neg (by omega), show 2 * j / 2 = j by omega]
      · refine List.map_congr_left fun j _ => ?_
        show (if (2 * j + 1) % 2 = 1 then p :: selM ps ((2 * j + 1) / 2) else _) = p :: selM ps j
        rw [if_pos (by omega), show (2 * j + 1) / 2 = j by omega]
    refine h1.trans ((ih.append (ih.map _)).trans ?_)
    show (choicesM ps ++ (choicesM ps).map (p :: ·)).Perm (([[]] ++ (choicesM ps).map (p :: ·)) ++ (choicesM ps).tail)
    rw [List.append_assoc]
    refine (List.Perm.append_right _ (.of_eq (choices_head ps))).trans ?_
    rw [List.cons_append]
    exact (List.perm_append_comm).cons _
theorem choices_tail : ∀ {ps c : List Int}, c ∈ (choicesM ps).tail → ∃ q r, c = q :: r ∧ q ∈ ps
  | [], c, h => by cases h
  | p :: ps, c, h => by
    have h' : c ∈ (choicesM ps).map (p :: ·) ++ (choicesM ps).tail := h
    rcases List.mem_append.mp h' with h' | h'
    · obtain ⟨d, _, rfl⟩ := List.mem_map.mp h'
      exact ⟨p, d, rfl, List.mem_cons_self⟩
    · obtain ⟨q, r, e, m⟩ := choices_tail h'
      exact ⟨q, r, e, List.mem_cons_of_mem _ m⟩
theorem choices_sorted : ∀ {ps : List Int}, ps.Pairwise (· < ·) → (choicesM ps).Pairwise (· ≤ ·)
  | [], _ => by
    show [([] : List Int)].Pairwise (· ≤ ·)
    simp
  | p :: ps, h => by
    obtain ⟨h1, h2⟩ := List.pairwise_cons.mp h
    have ih := choices_sorted h2
    show (([[]] ++ (choicesM ps).map (p :: ·)) ++ (choicesM ps).tail).Pairwise (· ≤ ·)
    rw [List.append_assoc, List.singleton_append, List.pairwise_cons]
    refine ⟨fun x _ => List.nil_le x, List.pairwise_append.mpr ⟨?_, ?_, ?_⟩⟩
    · rw [List.pairwise_map]
      exact ih.imp fun h => List.cons_le_cons_iff.mpr (.inr ⟨rfl, h⟩)
    · rw [choices_head ps] at ih
      exact (List.pairwise_cons.mp ih).2
    · intro x hx y hy
      obtain ⟨d, _, rfl⟩ := List.mem_map.mp hx
      obtain ⟨q, r, rfl, m⟩ := choices_tail hy
      exact List.cons_le_cons_iff.mpr (.inl (h1 q m))
theorem subs_sort {ps : List Int} (h : ps.Pairwise (· < ·)) : (subsM ps).mergeSort (PySem.W.dataLe false fun r : List Int => PyData.list (r.map PyData.int)) = choicesM ps := by
  rw [PySem.W.dataLe_rows (fun r : List Int => r)]
  have hs := List.pairwise_mergeSort (le := fun p q : List Int => decide (p ≤ q)) (fun a b c h1 h2 => decide_eq_true (List.le_trans (of_decide_eq_true h1) (of_decide_eq_true h2))) (fun a b => by
    rcases List.le_total a b with z | z
    · rw [decide_eq_true z]
      rfl
    · rw [decide_eq_true z, Bool.or_true]) (subsM ps)
  refine List.Perm.eq_of_pairwise (le := fun a b : List Int => a ≤ b) (fun a b _ _ h1 h2 => List.le_antisymm h1 h2) (hs.imp fun h => of_decide_eq_true h) (choices_sorted h) ((List.mergeSort_perm _ _).trans (subs_perm ps))
theorem adds_rise (os : List Ofr) (p : Int) (n : Nat) : (addsN os p n).Pairwise (· < ·) := by
  unfold addsN
  rw [List.pairwise_map]
  refine List.Pairwise.imp ?_ (List.Pairwise.filter _ (List.pairwise_lt_range (n := n)))
  intro a b h
  omega
/-! ### the order of lines, and how many there are -/
def lineLt (a b : Ln) : Prop := a.p < b.p ∨ (a.p = b.p ∧ (a.c < b.c ∨ (a.c = b.c ∧ a.as < b.as)))
theorem alike_line (a b : Ln) : PySem.W.alike (dLine a) (dLine b) = true := by
  have := PySem.W.alike_ints a.as b.as
  simp [dLine, PySem.W.alike, PySem.W.alikeAll, this]
theorem eqv_line {a b : Ln} (h : PyData.eqv (dLine a) (dLine b) = true) : a = b := by
  have e := eqv_ints a.as b.as
  simp only [dLine, PyData.eqv, PyData.eqvAll, Bool.and_eq_true] at h
  obtain ⟨h1, h2, h3, _⟩ := h
  have h3' : PyData.eqv (.list (a.as.map PyData.int)) (.list (b.as.map PyData.int)) = true := by simpa only [PyData.eqv] using h3
  rw [e] at h3'
  cases a
  cases b
  simp_all
theorem dataLt_line (a b : Ln) (h : PySem.W.dataLt (dLine a) (dLine b) = true) : lineLt a b := by
  unfold dLine at h
  rw [PySem.W.dataLt_tuple, PySem.W.dataLt_cons (by simp [PySem.W.alike]), PySem.W.dataLt_cons (by simp [PySem.W.alike]), PySem.W.dataLt_cons (by simp only [PySem.W.alike]; exact PySem.W.alike_ints _ _), PySem.W.dataLt_int, PySem.W.dataLt_int, PySem.W.dataLt_list] at h
  have e1 : PyData.eqv (.int a.p) (.int b.p) = decide (a.p = b.p) := by
    rw [Bool.eq_iff_iff]
    simp [PyData.eqv]
  have e2 : PyData.eqv (.int a.c) (.int b.c) = decide (a.c = b.c) := by
    rw [Bool.eq_iff_iff]
    simp [PyData.eqv]
  have e4 : PyProof.Rows.lexLt PyProof.Rows.itemOrd (PySem.W.keyToksAll (a.as.map PyData.int)) (PySem.W.keyToksAll (b.as.map PyData.int)) = decide (a.as < b.as) := PySem.W.dataLt_ints a.as b.as
  rw [e1, e2, eqv_ints, e4] at h
  unfold lineLt
  by_cases h1 : a.p = b.p
  · rw [if_pos (decide_eq_true h1)] at h
    by_cases h2 : a.c = b.c
    · rw [if_pos (decide_eq_true h2)] at h
      by_cases h3 : a.as = b.as
      · rw [if_pos (decide_eq_true h3)] at h
        have : PyProof.Rows.lexLt PyProof.Rows.itemOrd (PySem.W.keyToksAll []) (PySem.W.keyToksAll []) = false := PyProof.Rows.lex_irrefl _
        rw [this] at h
        cases h
      · rw [if_neg (by rw [decide_eq_true_eq]; exact h3)] at h
        exact .inr ⟨h1, .inr ⟨h2, of_decide_eq_true h⟩⟩
    · rw [if_neg (by rw [decide_eq_true_eq]; exact h2)] at h
      exact .inr ⟨h1, .inl (of_decide_eq_true h)⟩
  · rw [if_neg (by rw [decide_eq_true_eq]; exact h1)] at h
    exact .inl (of_decide_eq_true h)
theorem lineLt_asymm {a b : Ln} (h : lineLt a b) (k : lineLt b a) : False := by
  unfold lineLt at h k
  rcases h with h | ⟨h1, h | ⟨h2, h⟩⟩ <;> rcases k with k | ⟨k1, k | ⟨k2, k⟩⟩
  all_goals first
    | omega
    | exact List.lt_asymm h k
theorem choices_strict : ∀ {ps : List Int}, ps.Pairwise (· < ·) → (choicesM ps).Pairwise (· < ·)
  | [], _ => by
    show [([] : List Int)].Pairwise (· < ·)
    simp
  | p :: ps, h => by
    obtain ⟨h1, h2⟩ := List.pairwise_cons.mp h
    have ih := choices_strict h2
    show (([[]] ++ (choicesM ps).map (p :: ·)) ++ (choicesM ps).tail).Pairwise (· < ·)
    rw [List.append_assoc, List.singleton_append, List.pairwise_cons]
    refine ⟨fun x hx => ?_, List.pairwise_append.mpr ⟨?_, ?_, ?_⟩⟩
    · rcases List.mem_append.mp hx with hx | hx
      · obtain ⟨d, _, rfl⟩ := List.mem_map.mp hx
        exact List.nil_lt_cons _ _
      · obtain ⟨q, r, rfl, _⟩ := choices_tail hx
        exact List.nil_lt_cons _ _
    · rw [List.pairwise_map]
      exact ih.imp fun h => List.cons_lt_cons_iff.mpr (.inr ⟨rfl, h⟩)
    · rw [choices_head ps] at ih
      exact (List.pairwise_cons.mp ih).2
    · intro x hx y hy
      obtain ⟨d, _, rfl⟩ := List.mem_map.mp hx
      obtain ⟨q, r, rfl, m⟩ := choices_tail hy
      exact List.cons_lt_cons_iff.mpr (.inl (h1 q m))
theorem lines_strict (os : List Ofr) : (linesM os).Pairwise lineLt := by
  unfold linesM
  rw [List.pairwise_flatMap]
  refine ⟨fun i _ => ?_, List.Pairwise.imp ?_ (List.pairwise_lt_range (n := os.length))⟩
  · unfold linesAtM
    split
    · rw [List.pairwise_map]
      exact (choices_strict (adds_rise os i os.length)).imp fun h => .inr ⟨rfl, .inr ⟨rfl, h⟩⟩
    · rw [List.pairwise_map]
      refine List.Pairwise.imp ?_ (List.pairwise_lt_range (n := 12))
      intro a b h
      exact .inr ⟨rfl, .inl (by show 1 + (a : Int) < 1 + (b : Int); omega)⟩
    · exact List.Pairwise.nil
  · intro i j hij x hx y hy
    have e1 := linesAtM_p hx
    have e2 := linesAtM_p hy
    exact .inl (by omega)
theorem lines_sort (os : List Ofr) : (linesM os).mergeSort (PySem.W.dataLe false dLine) = linesM os := by
  refine List.mergeSort_of_pairwise ((lines_strict os).imp fun {a b} h => ?_)
  show (!PySem.W.dataLt (dLine b) (dLine a)) = true
  cases z : PySem.W.dataLt (dLine b) (dLine a) with
  | false => rfl
  | true => exact (lineLt_asymm h (dataLt_line b a z)).elim
/-! ### purchases and rows, without cheapest -/
abbrev AL := Addr × Ln
def LnkF (H0 H : Hp) (la : Addr) (bl : AL) : Prop := H la = some (.tup [.int bl.2.p, .int bl.2.c, .ref bl.1]) ∧ H bl.1 = some (LI bl.2.as) ∧ H0 la = none ∧ H0 bl.1 = none
theorem LnkF.ke {H0 H H' : Hp} (e : Ke H H') {a : Addr} {x : AL} (h : LnkF H0 H a x) : LnkF H0 H' a x := ⟨e.tup h.1, e.lst h.2.1, h.2.2⟩
theorem LnkF.at {H0 H : Hp} {a : Addr} {x : AL} (h : LnkF H0 H a x) : LineAt H a x.2 := ⟨_, h.1, h.2.1⟩
/-- a purchase of its own, no list at two places -/
def PurAt (H0 H : Hp) (q : Addr) (bls : List AL) : Prop := ∃ las : List Addr, H q = some (.lst (las.map V.ref)) ∧ Al (LnkF H0 H) las bls ∧ (bls.map (·.1)).Nodup ∧ q ∉ bls.map (·.1) ∧ H0 q = none
theorem LeW.sum_lt : ∀ {a b : List Int}, LeW a b → a.sum ≤ b.sum ∧ (a ≠ b → a.sum < b.sum)
  | [], [], _ => ⟨Int.le_refl _, fun h => absurd rfl h⟩
  | [], _ :: _, h => h.elim
  | _ :: _, [], h => h.elim
  | a :: r, b :: w, h => by
    obtain ⟨i1, i2⟩ := LeW.sum_lt h.2.2
    have := h.2.1
    rw [List.sum_cons, List.sum_cons]
    refine ⟨by omega, fun ne => ?_⟩
    by_cases e : a = b
    · have := i2 fun z => ne (by rw [e, z])
      omega
    · omega
theorem sumI_nonneg : ∀ {ws : List Int}, (∀ w ∈ ws, 0 ≤ w) → 0 ≤ ws.sum
  | [], _ => by decide
  | a :: r, h => by
    have h1 := h a List.mem_cons_self
    have h2 := sumI_nonneg (ws := r) fun w hw => h w (List.mem_cons_of_mem _ hw)
    rw [List.sum_cons]
    omega
theorem small_sum : ∀ {ws : List Int}, Small ws → ws.sum ≤ 9 * ws.length
  | [], _ => by simp
  | a :: q, sm => by
    have h1 := sm a List.mem_cons_self
    have h2 := small_sum (ws := q) fun x hx => sm x (List.mem_cons_of_mem _ hx)
    rw [List.sum_cons, List.length_cons]
    omega
theorem anyI_false_of {w : List Int} (h : ¬ anyI w = true) : anyI w = false := by
  cases z : anyI w with
  | false => rfl
  | true => exact absurd z h
/-! ### the lines of a shop that fits -/
theorem priceM_nonneg {m : Nat} {os : List Ofr} {l : Ln} (ft : FitS m os) (lok : LineOk os l) : 0 ≤ priceM os l := by
  obtain ⟨p, ep, ways⟩ := lok
  unfold priceM
  rw [ep, Int.toNat_natCast]
  rcases ways with ⟨c, ts, w1, w0, w2, w3, w4⟩ | ⟨c, pr, w1, w2, w3, w4⟩
  · rw [w1]
    have hp : PriceT ts := (ft _ (List.mem_of_getElem? w1)).2.2
    have h0 : 0 ≤ pieceM ts l.c := by
      unfold pieceM pieceL
      cases z : ((ts.filter fun t => decide (t.1 ≤ l.c)).map (·.2)).getLast? with
      | none =>
        rw [List.getLastD_eq_getLast?, z]
        exact Int.le_refl _
      | some x =>
        rw [List.getLastD_eq_getLast?, z]
        obtain ⟨t, ht, rfl⟩ := List.mem_map.mp (List.mem_of_getLast? z)
        exact (hp t (List.mem_filter.mp ht).1).1
    exact Int.mul_nonneg (by omega) h0
  · rw [w1]
    have h1 : 0 ≤ pr := (ft _ (List.mem_of_getElem? w1)).2.2.1
    have h2 : 0 ≤ (l.as.map (addPr os)).sum := sumI_nonneg fun x hx => by
      obtain ⟨y, hy, rfl⟩ := List.mem_map.mp hx
      obtain ⟨j, rfl, c', pr', k, hj⟩ := w4 y hy
      unfold addPr
      rw [Int.toNat_natCast, hj]
      exact (ft _ (List.mem_of_getElem? hj)).2.2.1
    show 0 ≤ pr + _
    omega
theorem rws_nn {m : Nat} {os : List Ofr} (gd : Good os) (ft : FitS m os) : NN (rwsM (prowsM os)) := fun r hr => by
  obtain ⟨x, hx, rfl⟩ := List.mem_map.mp hr
  obtain ⟨l, hl, rfl⟩ := List.mem_map.mp hx
  have lk := lines_ok gd hl
  exact ⟨(cont_v0 ft lk).2, priceM_nonneg ft lk⟩
abbrev shopRws (os : List Ofr) : List Rw := rwsM (prowsM os)
theorem PurAt.free {H0 H1 H : Hp} {q : Addr} {bls : List AL} (f : ∀ b, H1 b = none → H0 b = none) (h : PurAt H1 H q bls) : PurAt H0 H q bls := by
  obtain ⟨las, h1, h2, h3, h4, h5⟩ := h
  exact ⟨las, h1, h2.imp fun a x h => ⟨h.1, h.2.1, f _ h.2.2.1, f _ h.2.2.2⟩, h3, h4, f _ h5⟩
/-! ### generator expressions whose element may call defs: the generator's frame as a context of its own -/
abbrev gCx (X : Cx) (A : Around) (s : Shared) (H : Hp) (cenv : Env) (fp : List Addr) (pn : List (Addr × Obj)) : Cx :=
  { X with A := A.deeper cenv, s_0 := s, H_0 := H, env := cenv, outer := X.stack, stack := cenv :: X.stack, ex := fp, fn := fun _ => false, calm := true, pn := pn, xe := fun _ _ => False }
theorem over_gen {A : Around} {elt : Expr} {cs : List Comprehension} {scope : Scope} {pos : Pos} {it acc : Value} {cenv : Env} : A.over (.compLoop (.GeneratorExp elt cs scope pos) 0 it acc cenv) [] = A.deeper cenv := by
  rfl
theorem g_cell {cells : List (Str × Addr)} {names : List (Str × NameKind)} {y : Str} {c : Addr} (hf : ∀ z ∈ names, z.2 = .free → ∃ c, cells.lookup z.1 = some c) (e : (cloFrom cells names []).lookup y = some c) : names.lookup y ≠ none ∧ cells.lookup y = some c := by
  rcases cloFrom_mem (PySem.mem_of_lookup e) with q | ⟨q1, q2⟩
  · cases q
  · obtain ⟨c', e'⟩ := hf _ q1 rfl
    obtain ⟨k, hk⟩ := mem_lookup q1
    refine ⟨by rw [hk]; simp, ?_⟩
    subst q2
    have e'' : cells.lookup y = some c' := e'
    rw [e'']
    rfl
theorem g_look {cells : List (Str × Addr)} {names : List (Str × NameKind)} {y : Str} (hf : ∀ z ∈ names, z.2 = .free → ∃ c, cells.lookup z.1 = some c) (e : names.lookup y = some .free) : ∃ c, (cloFrom cells names []).lookup y = some c ∧ cells.lookup y = some c := by
  obtain ⟨c, hc⟩ := mem_lookup (cloFrom_has (cells := cells) (acc := []) (PySem.mem_of_lookup e))
  exact ⟨c, hc, (g_cell hf hc).2⟩
section
variable {X : Cx} {pins : List (Addr × Obj)} {σ : L2.St} {H : Hp} {s s5 : Shared}
/-- the generator's frame stands beside its object -/
theorem g_start {A : Around} {scope : Scope} {own : List (Str × Nat)} {fp : List Addr} {code : Value} {m : Str → Option Value} {a : Addr} {go : Obj} (I : Inv X pins σ H s) (ok : BlkOk X.N X.env.scope scope own) (hN : X.N.Nodup)
    (hcell : ∀ y ∈ scope.names, y.2 ≠ .cell) (hfp : ∀ b ∈ fp, FpOk X pins H b ∧ b < s.heap.objs.size) (hh : A.handled = none) (hfr : A.frames = some X.stack)
    (kp : ∀ b o, s.heap.get? b = some o → s5.heap.get? b = some o) (hns : s5.heap.Ns s.heap.objs.size m) (hos : s5.os = s.os) (hb : AllBare s5.gens) (hgo : s5.heap.get? a = some go) (ha : s.heap.objs.size < a) (hd : ∀ v, go.data ≠ .cell v) :
    Inv (gCx X A s H (genEnv scope (cloFrom X.env.cells scope.names []) s.heap.objs.size code builtinsNs X.env) fp [(a, go)]) [] (wipe σ (own.map (·.2))) H s5 := by
  have hf : ∀ z ∈ scope.names, z.2 = .free → ∃ c, X.env.cells.lookup z.1 = some c := fun z hz e => (ok.free z hz e).elim (fun k => I.ok.has _ (.inl k)) fun k => I.ok.has _ (.inr k)
  have low : ∀ {y c}, (cloFrom X.env.cells scope.names []).lookup y = some c → X.env.cells.lookup y = some c ∧ c < s.heap.objs.size := fun {y c} e => by
    have q := (g_cell hf e).2
    obtain ⟨v, z⟩ := I.cell y c q
    exact ⟨q, z.lt⟩
  have nocell : ∀ {y : Str}, scope.names.lookup y ≠ some .cell := fun {y} e => hcell _ (PySem.mem_of_lookup e) rfl
  have okg : (gCx X A s H (genEnv scope (cloFrom X.env.cells scope.names []) s.heap.objs.size code builtinsNs X.env) fp [(a, go)]).Ok := {
    mod := I.ok.mod
    kind := ok.kind
    glob := I.ok.glob
    blt := rfl
    above := Nat.le_refl _
    inj := fun y z c e1 e2 => I.ok.inj y z c (low e1).1 (low e2).1
    has := fun y hy => by
      rcases hy with q | q
      · exact absurd q nocell
      · obtain ⟨c, e, _⟩ := g_look hf q
        exact ⟨c, e⟩
    cab := fun _ _ z => nomatch z
    hd := fun _ => hh
    frames := Around.frames_deeper hfr
    stk := .inr ⟨rfl, rfl⟩
    exf := fun b hb => ⟨Nat.ne_of_lt (hfp b hb).2, fun y c e => (hfp b hb).1.2.2.2.2.1 y c (low e).1⟩
    bs := I.bs
    bsz := Nat.le_trans I.ok.bsz I.sz
    noex := fun b o e hb => by
      rcases (hfp b hb).1.2.2.2.1 with z | z
      · exact I.ok.noex b o e z
      · have h1 := Heap.lt_size e
        have h2 := I.ok.bsz
        exact Nat.lt_irrefl _ (Nat.lt_of_lt_of_le h1 (Nat.le_trans h2 z))
    exfs := fun b hb z => (List.mem_cons.mp (I.stkSub b z)).elim (hfp b hb).1.2.1 (hfp b hb).1.2.2.1
    funs := I.stack
    frf := I.stkFree }
  refine ⟨okg, hos, hb, Un.kept kp, ⟨m, hns, fun i y v e1 e2 e3 => ?_⟩, fun y c e => ?_, I.hok.fresh (Nat.le_refl _), fun y c e => I.freeC y c (low e).1, fun p hp => ?_, I.hok.kept kp, by rw [wipe_length]; exact I.len⟩
  · obtain ⟨e2, hne⟩ := wipe_some e2
    have hfree : scope.names.lookup y = some .free := by
      have e3 : Vis scope y := e3
      rcases e3 with q | q | q
      · rcases ok.own _ (PySem.mem_of_lookup q) (.inl rfl) with z | z
        · obtain ⟨p, hp, hpy⟩ := List.mem_map.mp z
          have e4 := ok.ix p hp
          rw [show p.1 = y from hpy] at e4
          exact absurd (List.mem_map.mpr ⟨p, hp, nodup_ix hN e4 e1⟩) hne
        · exact absurd (List.mem_of_getElem? e1) z
      · exact absurd q nocell
      · exact q
    obtain ⟨c, h1, h2⟩ := g_look hf hfree
    obtain ⟨m0, _, hl⟩ := I.loc
    have hsc := ok.free _ (PySem.mem_of_lookup hfree) rfl
    obtain ⟨u, r, q⟩ := hl i y v e1 e2 (hsc.elim (fun k => .inr (.inl k)) fun k => .inr (.inr k))
    refine ⟨u, r, .inr ⟨.inr hfree, c, h1, ?_⟩⟩
    rcases q with ⟨k, _⟩ | ⟨_, c', e', z⟩
    · have k : X.env.scope.names.lookup y = some .local := k
      rcases hsc with k' | k' <;> rw [show X.env.scope.names.lookup y = _ from k'] at k <;> cases k
    · rw [h2] at e'
      cases e'
      exact z.keeps kp
  · obtain ⟨v, z⟩ := I.cell y c (low e).1
    exact ⟨v, z.keeps kp⟩
  · have hp' : p ∈ [(a, go)] := by simpa using hp
    rw [List.mem_singleton.mp hp']
    exact ⟨hgo, I.hok.fresh (Nat.le_of_lt ha), Nat.ne_of_gt ha, fun z => by
      have q : a ∉ X.env.locals :: X.fs := fun z => by
        rcases List.mem_cons.mp z with z | z
        · have q1 : (a : Nat) < s.heap.objs.size := by rw [z]; exact I.lt
          exact Nat.lt_irrefl _ (Nat.lt_trans q1 ha)
        · exact I.nofs (Nat.le_of_lt ha) z
      exact q (I.stkSub a z), hd⟩
end
/-- the same heap and answers from without; no generator needs a cleaning -/
structure Still (s s' : Shared) : Prop where
  heap : s'.heap = s.heap
  os : s'.os = s.os
  bare : AllBare s'.gens
theorem inv_still {X : Cx} {pins : List (Addr × Obj)} {σ : L2.St} {H : Hp} {s s' : Shared} (I : Inv X pins σ H s) (h : Still s s') : Inv X pins σ H s' := by
  obtain ⟨h1, h2, h3⟩ := h
  exact ⟨I.ok, h2.trans I.os, h3, by rw [h1]; exact I.base, by rw [h1]; exact I.loc, by rw [h1]; exact I.cell, I.free, I.freeC, by rw [h1]; exact I.pin, by rw [h1]; exact I.hok, I.len⟩
/-- how a generator ends, and what it hands out: L turns in all -/
def gEnd (Y : Cx) (σ0 : L2.St) (L : Nat) (W : Nat → Hp → Prop) (s₁ : Shared) : Prop := ∃ H, Inv Y [] σ0 H s₁ ∧ W L H
def gHand (Y : Cx) (σ0 : L2.St) (L : Nat) (W : Nat → Hp → Prop) (Out : Nat → V → Hp → Prop) : Protocol := fun n _ v s kap =>
  ∃ i y H, i + n + 1 = L ∧ RelV y v ∧ Inv Y [] σ0 H s ∧ Out i y H ∧ ∀ s'', Still s s'' → W (i + 1) H → kap (.send .none) s''
section
variable {X : Cx} {A : Around} {s4 : Shared} {H4 : Hp} {cenv : Env} {fp : List Addr} {pn : List (Addr × Obj)} {elt tg iter : Expr} {scope : Scope} {pos : Pos} {it : Addr} {J : It} {tn : Nat → Heap → Prop} {g : TG} {te : TE} {σ0 : L2.St} {vs : List Nat} {L : Nat} {W : Nat → Hp → Prop} {Out : Nat → V → Hp → Prop}
theorem g_loop (hco : cenv.scope.isCoroutine = false) (T : Turn X.prog X.w X.K tg J fp it tn) (hpn : ∀ p ∈ pn, p.1 ∉ fp) (pg : PG (gCx X A s4 H4 cenv fp pn) tg g) (pe : PE (gCx X A s4 H4 cenv fp pn) elt te) (hst : ∀ H, W L H → J.stop L H)
    (hgo : ∀ i H, i < L → W i H → J.go i H ∧ ∀ x H', J.yld i H x H' → g x σ0 H' fun σ2 H2 => wipe σ2 vs = σ0 ∧ te σ2 H2 (Out i)) :
    ∀ (n i : Nat) (s₀ s : Shared), i + n = L → (∃ H, Inv (gCx X A s4 H4 cenv fp pn) [] σ0 H s ∧ tn i s.heap ∧ (∀ b ∈ fp, H b = none) ∧ W i H) →
      Seg (model X.prog X.w) A (fun _ _ r s₁ => r = .ok .next ∧ gEnd (gCx X A s4 H4 cenv fp pn) σ0 L W s₁) (gHand (gCx X A s4 H4 cenv fp pn) σ0 L W Out) n s₀
        (.compLoop (.GeneratorExp elt [⟨tg, iter, [], 0⟩] scope pos) 0 (.ref it) .none cenv) ((model X.prog X.w).den (.compLoop (.GeneratorExp elt [⟨tg, iter, [], 0⟩] scope pos) 0 (.ref it) .none cenv)) [] s := by
  have foot : ∀ {σ' : L2.St} {H' : Hp} {s' : Shared}, Inv (gCx X A s4 H4 cenv fp pn) [] σ' H' s' → (∀ b ∈ fp, H' b = none) → ∀ b ∈ fp, FpOk (gCx X A s4 H4 cenv fp pn) [] H' b := fun {σ' H' s'} I' hn b hb =>
    ⟨hn b hb, (I'.ok.exf b hb).1, I'.ok.exfs b hb, .inl hb, (I'.ok.exf b hb).2, fun p hp z => by
      have hp' : p ∈ pn := by simpa using hp
      exact hpn p hp' (z ▸ hb)⟩
  intro n
  induction n with
  | zero =>
    rintro i s₀ s hi ⟨H, I, st, nf, w⟩
    obtain rfl : i = L := by omega
    change Seg _ A _ _ 0 s₀ _ (Sem.onRaise (compTurn _ 0 (.ref it) .none cenv) _) [] s
    rw [compTurn_gen, Sem.onRaise_eq_wrap]
    refine seg_bind_wrap (wpAny_standAt (seg_bind_wrap ?_))
    rw [over_gen]
    refine thnF (T.done (gCx X A s4 H4 cenv fp pn) rfl rfl rfl rfl i [] s σ0 H (fun _ _ => False) I (foot I nf) st (hst H w)) ?_
    rintro r s6 ⟨rfl, I6⟩
    exact seg_end (.ok .next) ⟨rfl, H, I6, w⟩
  | succ n ih =>
    rintro i s₀ s hi ⟨H, I, st, nf, w⟩
    obtain ⟨go, step⟩ := hgo i H (by omega) w
    change Seg _ A _ _ (n + 1) s₀ _ (Sem.onRaise (compTurn _ 0 (.ref it) .none cenv) _) [] s
    rw [compTurn_gen, Sem.onRaise_eq_wrap]
    refine seg_bind_wrap (wpAny_standAt (seg_bind_wrap ?_))
    rw [over_gen]
    refine thnF (T.item (gCx X A s4 H4 cenv fp pn) rfl rfl rfl rfl i [] s σ0 H (fun _ _ => False) I (foot I nf) st go) ?_
    rintro r s6 ⟨u, rfl, h6⟩
    refine seg_bind_wrap ?_
    rw [over_gen]
    refine thnF h6 ?_
    rintro _ s7 ⟨x, H7, I7, r7, y7, st7, n7⟩
    refine seg_bind_wrap ?_
    rw [over_gen]
    refine thnF (pg.run _ s7 _ H7 x u _ (I7.pinned (foot I7 n7) (T.obj _ _ st7)) r7 (step x H7 y7)) ?_
    rintro _ s8 ⟨σ8, H8, I8, hw8, q8⟩
    refine seg_bind_wrap (wpAny_tests_nil ?_)
    rw [if_pos rfl]
    have hy : ∀ v, yieldOut cenv v = yieldValue v := fun v => by
      unfold yieldOut
      rw [hco]
      rfl
    simp only [hy]
    rw [Sem.bind_eq_wrap', Sem.bind_eq_wrap', Sem.wrap_wrap, Sem.wrap_wrap]
    refine seg_wrap ?_
    rw [over_gen]
    refine thnF (pe.run _ s8 σ8 H8 _ I8 q8) ?_
    rintro v s10 ⟨y, H10, I10, r10, o10⟩
    have pin' : ∀ b ∈ fp, ∀ o, s7.heap.get? b = some o → s10.heap.get? b = some o ∧ H10 b = none := fun b hb o e =>
      ⟨(I10.pin (b, o) (List.mem_append_right _ (List.mem_append_right _ (mem_pinsAt hb e)))).1, (I10.pin (b, o) (List.mem_append_right _ (List.mem_append_right _ (mem_pinsAt hb e)))).2.1⟩
    have I11 : Inv (gCx X A s4 H4 cenv fp pn) [] σ0 H10 s10 := (I10.unpinned (pins := [])).weak (by rw [← hw8, wipe_length]) fun j v e => by
      rw [← hw8] at e
      exact (wipe_some e).1
    refine seg_at (seg_yield rfl rfl rfl ⟨i, y, H10, by omega, r10, I11, o10, fun s'' hs w' => ?_⟩)
    refine seg_again rfl (ih (i + 1) s'' s'' (by omega) ⟨H10, inv_still I11 hs, ?_, fun b hb => ?_, w'⟩)
    · rw [hs.heap]
      exact T.keep _ _ _ st7 fun b hb o e => (pin' b hb o e).1
    · obtain ⟨o, e, _⟩ := T.obj _ _ st7 b hb
      exact (pin' b hb o e).2
theorem g_begin (hco : cenv.scope.isCoroutine = false) (T : Turn X.prog X.w X.K tg J fp it tn) (hpn : ∀ p ∈ pn, p.1 ∉ fp) (pg : PG (gCx X A s4 H4 cenv fp pn) tg g) (pe : PE (gCx X A s4 H4 cenv fp pn) elt te) (hst : ∀ H, W L H → J.stop L H)
    (hgo : ∀ i H, i < L → W i H → J.go i H ∧ ∀ x H', J.yld i H x H' → g x σ0 H' fun σ2 H2 => wipe σ2 vs = σ0 ∧ te σ2 H2 (Out i)) (s₀ s : Shared) (h : ∃ H, Inv (gCx X A s4 H4 cenv fp pn) [] σ0 H s ∧ tn 0 s.heap ∧ (∀ b ∈ fp, H b = none) ∧ W 0 H) :
    Seg (model X.prog X.w) A (fun _ _ r s₁ => r = .ok .next ∧ gEnd (gCx X A s4 H4 cenv fp pn) σ0 L W s₁) (gHand (gCx X A s4 H4 cenv fp pn) σ0 L W Out) L s₀
        (.compStart (.GeneratorExp elt [⟨tg, iter, [], 0⟩] scope pos) 0 (.ref it) .none cenv) ((model X.prog X.w).den (.compStart (.GeneratorExp elt [⟨tg, iter, [], 0⟩] scope pos) 0 (.ref it) .none cenv)) [] s := by
  have loop := g_loop (iter := iter) (scope := scope) (pos := pos) hco T hpn pg pe hst hgo L 0 s₀ s (Nat.zero_add _) h
  obtain ⟨H, I, st, _⟩ := h
  change Seg _ A _ _ L s₀ _ (Sem.onRaise (compStart _ 0 (.ref it) .none cenv) _) [] s
  unfold compStart
  rw [Sem.onRaise_eq_wrap]
  refine seg_bind_wrap (m := ask) (wpAny_askSetting ?_)
  split
  · exact seg_again rfl loop
  · refine seg_bind_wrap (wpAny_rule ?_)
    first
      | exact seg_bind_wrap (wpAny_standAt (seg_bind_wrap (T.self _ 0 s _ _ st (seg_again rfl loop))))
      | (refine seg_bind_wrap (m := standAt iter.pos) (wpAny_standAt ?_); exact seg_bind_wrap (T.self _ 0 s _ _ st (seg_again rfl loop)))
end
/-- the scope of a generator expression: its own names, what walks at «.0», no cells of its own -/
structure GenB (N : List Str) (sc scope : Scope) (own : List (Str × Nat)) : Prop where
  blk : BlkOk N sc scope own
  co : scope.isCoroutine = false
  cell : ∀ y ∈ scope.names, y.2 ≠ .cell
  dot : scope.names.lookup (".0" : Str) = some NameKind.local
/-- a generator that stands ready, n turns ahead at most -/
def gRun (M : Model) (A : Around) (Y : Cx) (σ0 : L2.St) (L : Nat) (W : Nat → Hp → Prop) (Out : Nat → V → Hp → Prop) (a : Addr) (j n : Nat) (s : Shared) : Prop :=
  s.heap.IsGen a j ∧ s.heap.NoLimit ∧ ∃ gs, s.gens[j]? = some gs ∧ gs.Goes M A (fun _ _ r s₁ => r = .ok .next ∧ gEnd Y σ0 L W s₁) (gHand Y σ0 L W Out) n (.send .none) (s.setGen j .running)
/-- what is told of a generator expression: its walk by W, what it hands out by Out; all else by Use -/
def tGen (P : Addr) (wi : TI) (g : TG) (te : TE) (vs : List Nat) (Use : Nat → (Nat → Hp → Prop) → (Nat → V → Hp → Prop) → Prop) : L2.St → Hp → Prop := fun σ H => wi σ H fun J H1 => GxR.TabG H1 P ∧ ∀ H2, GxR.Tabbed P H1 H2 →
  ∃ (L : Nat) (W : Nat → Hp → Prop) (Out : Nat → V → Hp → Prop), W 0 H2 ∧ (∀ H, W L H → J.stop L H) ∧
    (∀ i H, i < L → W i H → J.go i H ∧ ∀ x H', J.yld i H x H' → g x (wipe σ vs) H' fun σ2 H3 => wipe σ2 vs = wipe σ vs ∧ te σ2 H3 (Out i)) ∧ Use L W Out
section
variable {X : Cx} {pins : List (Addr × Obj)} {σ : L2.St} {H : Hp} {s : Shared}
theorem g_made {c P : Addr} {elt tg iter : Expr} {gpos : Pos} {scope : Scope} {own : List (Str × Nat)} {wi : TI} {g : TG} {te : TE} {k : Nat} {Q' : Value → Shared → Prop} {Use : Nat → (Nat → Hp → Prop) → (Nat → V → Hp → Prop) → Prop}
    (hr : Room (k + 1) X.A) (TB : GxR.TabB X.base X.mg c P) (hcode : X.env.code = .ref c) (S : GenB X.N X.env.scope scope own) (hN : X.N.Nodup) (I : Inv X pins σ H s) (hi : PI X tg iter wi)
    (hg : ∀ (A : Around) (s : Shared) (H : Hp) (C : Addr) (cl : List (Str × Addr)) (code : Value) (fp : List Addr) (pn : List (Addr × Obj)), PG (gCx X A s H (genEnv scope cl C code builtinsNs X.env) fp pn) tg g)
    (he : ∀ (A : Around) (s : Shared) (H : Hp) (C : Addr) (cl : List (Str × Addr)) (code : Value) (fp : List Addr) (pn : List (Addr × Obj)), Room k (A.deeper (genEnv scope cl C code builtinsNs X.env)) → PE (gCx X A s H (genEnv scope cl C code builtinsNs X.env) fp pn) elt te)
    (hs : ∀ v, genFold iter X.env v = pure v) (h : tGen P wi g te (own.map (·.2)) Use σ H)
    (hQ : ∀ (Y : Cx) (L : Nat) (W : Nat → Hp → Prop) (Out : Nat → V → Hp → Prop) (a : Addr) (j : Nat) (s5 : Shared), Use L W Out → (∀ H' s', Inv Y [] (wipe σ (own.map (·.2))) H' s' → Inv X pins σ H' s' ∧ s'.heap.IsGen a j) →
      gRun (model X.prog X.w) X.A.in1.in1 Y (wipe σ (own.map (·.2))) L W Out a j L s5 → Q' (.ref a) s5) :
    wpAny (model X.prog X.w) X.A (eval (.GeneratorExp elt [⟨tg, iter, [], 0⟩] scope gpos) X.env) Q' X.xe s := by
  have hf : ∀ z ∈ scope.names, z.2 = .free → ∃ c, X.env.cells.lookup z.1 = some c := fun z hz e => (S.blk.free z hz e).elim (fun k => I.ok.has _ (.inl k)) fun k => I.ok.has _ (.inr k)
  refine wpAny_GeneratorExp_make S.co (closure_ok hf) S.cell S.dot S.blk.kind (by have := hr.dp; omega) ?_ hs
  refine thn (hi.run pins s σ H _ I h) fun xv s1 hx => thn hx ?_
  rintro itv s2 ⟨it, fp, tn, J, H1, rfl, I2, T, st2, f2, ⟨ps, hP, ht⟩, q⟩
  have lim2 := I2.nolimit
  refine ⟨lim2, ?_⟩
  have hPs : s2.heap.get? P = some { cls := .none, data := .fields ps } := I2.hok P _ hP
  have cd : PySem.W.CodeHd s2.heap c P := TB.code.keeps fun b u e => I2.bk b u e
  have main : ∀ (code : Value) (h3 : Heap) (tk : Nat) (more : Array Value), Heap.ExtBut P s2.heap h3 → s2.heap.objs.size ≤ h3.objs.size → h3.get? P = some { cls := .none, data := .fields (ps ++ more) } → TriplesOk (ps ++ more).toList →
      wpAny (model X.prog X.w) X.A (builtinsFor X.env.globals X.env.builtins) (fun bi s₄ => ∀ h', h'.Ns s₄.heap.objs.size (fun y => if y = ".0" then some (.ref it) else none) → Heap.SameBut s₄.heap.objs.size (s₄.heap.push { cls := .type "frame", data := .dict #[] }) h' →
          Q' (.ref h'.objs.size) { s₄ with
            gens := s₄.gens.push (.fresh (.compStart (.GeneratorExp elt [⟨tg, iter, [], 0⟩] scope gpos) 0 (.ref it) .none (genEnv scope (cloFrom X.env.cells scope.names []) s₄.heap.objs.size code bi X.env))),
            toks := s₄.toks + 1 + 1 + 1,
            heap := h'.push { cls := .type "generator", data := .fields #[.int s₄.gens.size 0, .str "<genexpr>" (s₄.toks + 1), .str (X.env.qual ++ "<genexpr>") (s₄.toks + 1 + 1)] } }) X.xe { s2 with heap := h3, toks := tk } := by
    intro code h3 tk more hx hsz3 hP3 ht3
    obtain ⟨bm, ob, e1, e2, e3, e4, e5, e6, e7, e8⟩ := TB.bm
    have keep3 : ∀ b u, b ≠ P → s2.heap.get? b = some u → h3.get? b = some u := fun b u hb e => hx b u hb e
    have hg2 : s2.heap.Ns mainGlobals X.mg := I2.mod.glob.keeps I2.bk
    refine wpAny_builtinsFor (m := X.mg) (by rw [I2.ok.glob]; exact hg2.extBut hx TB.gP) e1 e2 (keep3 _ _ e4 (I2.bk _ _ e5)) e6 e7 e8 ?_
    have I4 : Inv X pins σ (upd H1 P (.tbl (ps ++ more))) { s2 with heap := h3, toks := tk } := GxR.inv_tab (g' := s2.gens) (d' := s2.drawn) (t' := tk) I2 hP keep3 hP3 I2.bare
    obtain ⟨L, W, Out, w0, hst, hgo, use⟩ := q _ ⟨⟨ps ++ more, upd_same, ht3⟩, fun b hb => upd_ne hb⟩
    have bP : ∀ b ∈ fp, b ≠ P := fun b hb z => by
      have q1 := (f2 b hb).1
      rw [z, hP] at q1
      cases q1
    have f4 : ∀ b ∈ fp, FpOk X pins (upd H1 P (.tbl (ps ++ more))) b ∧ b < h3.objs.size := fun b hb => by
      obtain ⟨o, e, _⟩ := T.obj _ _ st2 b hb
      refine ⟨⟨by rw [upd_ne (bP b hb)]; exact (f2 b hb).1, (f2 b hb).2⟩, Heap.lt_size (keep3 b o (bP b hb) e)⟩
    have st4 : tn 0 h3 := T.keep _ _ _ st2 fun b hb o e => keep3 b o (bP b hb) e
    generalize upd H1 P (.tbl (ps ++ more)) = H2 at I4 w0 f4
    generalize hs4 : ({ s2 with heap := h3, toks := tk } : Shared) = s4 at I4 ⊢
    have hp4 : s4.heap = h3 := by rw [← hs4]
    rw [← hp4] at f4 st4
    intro h' hn' hs'
    generalize hgo' : ({ cls := .type "generator", data := .fields #[.int s4.gens.size 0, .str "<genexpr>" (s4.toks + 1), .str (X.env.qual ++ "<genexpr>") (s4.toks + 1 + 1)] } : Obj) = go
    have hgn : ∀ {h : Heap}, h.get? h'.objs.size = some go → h.IsGen h'.objs.size s4.gens.size := fun {h} e => by
      subst hgo'
      exact ⟨_, _, _, e, rfl, rfl, rfl⟩
    have hgd : ∀ v, go.data ≠ .cell v := fun v z => by
      subst hgo'
      cases z
    have hgf : ∀ h : Heap, (h.push go).get? h.objs.size = some go := fun h => by
      subst hgo'
      exact Heap.get?_push_size _ rfl
    have hsz' : h'.objs.size = s4.heap.objs.size + 1 := by rw [hs'.1, Heap.size_push]
    have kp : ∀ b o, s4.heap.get? b = some o → (h'.push go).get? b = some o := fun b o e => Heap.get?_push_of_some _ (hs'.extBut b o (Nat.ne_of_lt (Heap.lt_size e)) (Heap.get?_push_of_some _ e))
    have ha : s4.heap.objs.size < h'.objs.size := by omega
    have hnf : ∀ p ∈ [(h'.objs.size, go)], p.1 ∉ fp := fun p hp hb => by
      rw [List.mem_singleton.mp hp] at hb
      exact Nat.lt_irrefl _ (Nat.lt_trans ha (f4 _ hb).2)
    have rm : Room k (X.A.in1.in1.deeper (genEnv scope (cloFrom X.env.cells scope.names []) s4.heap.objs.size code builtinsNs X.env)) :=
      ⟨hr.hd, by have := hr.dp; show X.A.depth + 1 + 3 * k + 5 < _; omega, by have := hr.un; show X.A.units + 1 + 1 + 3 + 16 * k + 200 < _; omega⟩
    refine hQ (gCx X X.A.in1.in1 s4 H2 (genEnv scope (cloFrom X.env.cells scope.names []) s4.heap.objs.size code builtinsNs X.env) fp [(h'.objs.size, go)]) L W Out _ s4.gens.size _ use (fun H' s' I' => ⟨?_, ?_⟩) ⟨hgn (hgf h'), I4.nolimit.keeps kp, _, Array.getElem?_push_size .., rfl, ?_⟩
    · exact I4.call' (ch := fp) I'.os I'.base I'.hok I'.bare fun b hb => ⟨(f4 b hb).1.2.2.2.1, (f4 b hb).1.2.1, (f4 b hb).1.2.2.2.2.1, (f4 b hb).1.2.2.2.2.2⟩
    · exact hgn (I'.pin (h'.objs.size, go) (by simp)).1
    · refine g_begin (vs := own.map (·.2)) S.co T hnf (hg _ _ _ _ _ _ _ _) (he _ _ _ _ _ _ _ _ rm) hst hgo _ _ ⟨H2, g_start I4 S.blk hN S.cell f4 hr.hd I4.ok.frames kp (hn'.push _) rfl (allBare_setGen (AllBare.push I4.bare rfl) rfl) (hgf h') ha hgd, ?_, fun b hb => (f4 b hb).1.1, w0⟩
      exact T.keep _ _ _ st4 fun b hb o e => kp b o e
  cases hcm : codeAmong gpos ps.toList with
  | none =>
    refine wpAny_genexprCodeX hcode (cd.code hPs ht) (cd.tab hPs) hcm fun c' h' tk hx hge hlt hco' _ htab' _ => ?_
    obtain ⟨_, _, _, _, _, _, _, _, _, _, _, _, _, _, _, _, _, _, _, htr, _⟩ := hco'
    exact main _ h' tk _ hx (Nat.le_trans hge (Nat.le_of_lt hlt)) htab'.2 htr
  | some cv =>
    refine wpAny_genexprCode_hit hcode (cd.code hPs ht) hcm ?_
    exact main cv s2.heap s2.toks #[] (Heap.ExtBut.refl _ _) (Nat.le_refl _) (by simpa using hPs) (by simpa using ht)
end
section
variable {X : Cx}
/-- all(..) of such a generator: while it hands out True it goes on -/
theorem g_all {A : Around} {Y : Cx} {σ0 : L2.St} {L : Nat} {W : Nat → Hp → Prop} {Out : Nat → V → Hp → Prop} {a : Addr} {j : Nat} {R : Result → Shared → Prop} {Qf : Hp → Prop} {P : Program} {w : World} (hh : A.handled = none) (hd : A.depth < recursionLimit)
    (hk : ∀ H s, Inv Y [] σ0 H s → s.heap.IsGen a j) (hout : ∀ i y H, Out i y H → ∃ b, y = .bl b ∧ if b = true then W (i + 1) H else Qf H)
    (hT : ∀ H s, Inv Y [] σ0 H s → W L H → R (.ok (.ret (.bool true))) s) (hF : ∀ H s, Inv Y [] σ0 H s → Qf H → R (.ok (.ret (.bool false))) s) :
    ∀ (n : Nat) (s : Shared), gRun (model P w) A.in1.in1 Y σ0 L W Out a j n s → codeAny (model P w) A (.builtin "all.loop" ⟨[.ref a], []⟩) R s := by
  intro n
  induction n with
  | zero =>
    rintro s ⟨ig, nl, gs, hgs, hgo⟩
    refine codeAny_builtin F.entry_all_loop ?_
    rw [Around.under_plainId F.plain_all_loop _]
    change wpAny _ A.in1 (pyNext (.ref a) >>= _) _ _ s
    refine wpAny_bind (wpAny_pyNext_genexpQ (P := fun _ _ s₁ => gEnd Y σ0 L W s₁) hh nl hd ig hgs hgo ?_ ?_)
    · rintro v s₁ gs' hb ⟨i, y, H, _, ry, I, o, kap⟩
      obtain ⟨b, rfl, hb'⟩ := hout i y H o
      obtain rfl : v = .bool b := ry
      cases b with
      | true => exact (kap s₁ ⟨rfl, rfl, I.bare⟩ hb').elim
      | false =>
        refine wpAny_bind (wpAny_holding (wpAny_truthy_bool (wpAny_bind (wpAny_letGo ?_))))
        exact wpAny_bind (wpAny_rule (wpAny_pure (hF H _ (inv_still I ⟨rfl, rfl, allBare_setGen I.bare hb⟩) hb')))
    · rintro s₁ ⟨H, I, w1⟩ h' hk'
      exact wpAny_bind (wpAny_rule (wpAny_pure (hT H _ ((inv_still (s' := s₁.setGen j .finished) I ⟨rfl, rfl, allBare_setGen I.bare rfl⟩).kept (t' := s₁.toks) hk') w1)))
  | succ n ih =>
    rintro s ⟨ig, nl, gs, hgs, hgo⟩
    have hgl : j < s.gens.size := (Array.getElem?_eq_some_iff.mp hgs).1
    refine codeAny_builtin F.entry_all_loop ?_
    rw [Around.under_plainId F.plain_all_loop _]
    change wpAny _ A.in1 (pyNext (.ref a) >>= _) _ _ s
    refine wpAny_bind (GenW.wpAny_gsz (n := j + 1) hgl (wpAny_pyNext_genexpQ (P := fun _ _ s₁ => gEnd Y σ0 L W s₁) hh nl hd ig hgs hgo ?_ ?_))
    · rintro v s₁ gs' hb ⟨i, y, H, _, ry, I, o, kap⟩ hsz
      obtain ⟨b, rfl, hb'⟩ := hout i y H o
      obtain rfl : v = .bool b := ry
      refine wpAny_bind (wpAny_holding (wpAny_truthy_bool (wpAny_bind (wpAny_letGo ?_))))
      cases b with
      | true =>
        have hj : j < s₁.gens.size := by
          have q1 : (s₁.setGen j gs').gens.size = s₁.gens.size := GenW.setGen_size _ _ _
          have q2 : j + 1 ≤ (s₁.setGen j gs').gens.size := hsz
          omega
        have I1 : Inv Y [] σ0 H (s₁.setGen j gs') := inv_still I ⟨rfl, rfl, allBare_setGen I.bare hb⟩
        exact wpAny_pure ⟨plainId_quiet F.plain_all_loop _, ih _ ⟨hk H _ I1, I1.nolimit, gs', setGen_at hj, kap _ ⟨rfl, rfl, allBare_setGen I1.bare rfl⟩ hb'⟩⟩
      | false => exact wpAny_bind (wpAny_rule (wpAny_pure (hF H _ (inv_still I ⟨rfl, rfl, allBare_setGen I.bare hb⟩) hb')))
    · rintro s₁ ⟨H, I, w1⟩ h' hk' _
      exact wpAny_bind (wpAny_rule (wpAny_pure (hT H _ ((inv_still (s' := s₁.setGen j .finished) I ⟨rfl, rfl, allBare_setGen I.bare rfl⟩).kept (t' := s₁.toks) hk') w1)))
def tGAll (P : Addr) (wi : TI) (g : TG) (te : TE) (vs : List Nat) : TE := fun σ H Q =>
  tGen P wi g te vs (fun L W Out => (∀ H, W L H → Q (.bl true) H) ∧ ∀ i y H, Out i y H → ∃ b, y = .bl b ∧ if b = true then W (i + 1) H else Q (.bl false) H) σ H
theorem pe_gAll {c P : Addr} {elt tg iter : Expr} {p pos gpos : Pos} {scope : Scope} {own : List (Str × Nat)} {wi : TI} {g : TG} {te : TE} {k : Nat}
    (hr : Room (k + 1) X.A) (hgl : Gl X "all") (hm : X.mg "all" = none) (hb : bootBuiltins "all" = some (.builtin "all")) (TB : GxR.TabB X.base X.mg c P) (hcode : X.env.code = .ref c) (S : GenB X.N X.env.scope scope own) (hN : X.N.Nodup) (hi : PI X tg iter wi)
    (hg : ∀ (A : Around) (s : Shared) (H : Hp) (C : Addr) (cl : List (Str × Addr)) (code : Value) (fp : List Addr) (pn : List (Addr × Obj)), PG (gCx X A s H (genEnv scope cl C code builtinsNs X.env) fp pn) tg g)
    (he : ∀ (A : Around) (s : Shared) (H : Hp) (C : Addr) (cl : List (Str × Addr)) (code : Value) (fp : List Addr) (pn : List (Addr × Obj)), Room k (A.deeper (genEnv scope cl C code builtinsNs X.env)) → PE (gCx X A s H (genEnv scope cl C code builtinsNs X.env) fp pn) elt te)
    (hs : ∀ v, genFold iter X.env v = pure v := by intro _; rfl)
    (hst : starEach [.GeneratorExp elt [⟨tg, iter, [], 0⟩] scope gpos] X.env = (false, eval (.GeneratorExp elt [⟨tg, iter, [], 0⟩] scope gpos) X.env) :: starEach [] X.env := by rfl) :
    PE X (.Call (.Name "all" p) [.GeneratorExp elt [⟨tg, iter, [], 0⟩] scope gpos] [] pos) (tGAll P wi g te (own.map (·.2))) := by
  refine ⟨fun pins s σ H Q I h => wpAny_Call_Name_kw (ld_blt I hgl hm hb (PyProof.Rows.callWith_builtin1 ?_ hst (by rfl)))⟩
  rw [hst]
  change wpAny _ _ (spliced ((false, eval (.GeneratorExp elt [⟨tg, iter, [], 0⟩] scope gpos) X.env) :: backTo pos (starEach [] X.env))) _ _ s
  refine Calls.spliced_cons (g_made hr TB hcode S hN I hi hg he hs h ?_)
  rintro Y L W Out a j s5 ⟨hend, hout⟩ leave run
  refine Calls.spliced_nil (call_function_tree F.kind_all F.plain_all F.entry_all (F.args_all1 _) ?_)
  unfold Builtin.«all»
  refine wpAny_bind (m := oneArg "all" _) (wpAny_pure (wpAny_bind (wpAny_pyIter_gen run.1 (wpAny_pure ⟨plainId_quiet F.plain_all_loop _, ?_⟩))))
  refine g_all hr.hd (by have := hr.dp; omega) (fun H' s' I' => (leave H' s' I').2) hout (fun H' s' I' w' => ?_) (fun H' s' I' q' => ?_) L s5 run
  · exact ⟨.bl true, H', (leave H' s' I').1, rfl, hend H' w'⟩
  · exact ⟨.bl false, H', (leave H' s' I').1, rfl, q'⟩
end
/-! ### a number or None -/
def optV : Option Int → V
  | none => .non
  | some p => .int p
/-! ### _law_pop -/
abbrev s_law_pop : Stmt := topS 32
abbrev N_law_pop : List Str := ["_law_draws_here"]
theorem sc_law_pop : FnScope N_law_pop ["_law_draws_here"] (defScope s_law_pop) := ⟨rfl, rfl, rfl, by decide +kernel, rfl, by decide +kernel, by decide +kernel⟩

def sp_pop : Sp := fun vs H Q _ => ∃ (a : Addr) (ns : List Int), vs = [.ref a] ∧ H a = some (LI ns) ∧ ∀ H', SameBut a H H' → H' a = some (LI ns.tail) → Q (.int (ns.headD 0)) H'
section
variable {P : Program} {w : World} {K : PySem.W.Frag} {mg : Str → Option Value} {base : Heap}
theorem ok_pop {f : Addr} {fd : FuncData} {k : Nat} (D : Def K mg "_law_pop" s_law_pop ["_law_draws_here"] f fd) : FnOk P w K mg base CX0 (k + 1) f fd ["_law_draws_here"] sp_pop := by
  refine D.F.ok sc_law_pop (fun vs H Q E h => ?_) (fun cdv A outer s H vs Q E hr h => ?_)
  · obtain ⟨a, ns, rfl, _⟩ := h
    rfl
  · obtain ⟨a, ns, rfl, ha, q⟩ := h
    refine ⟨_, (pss_cons (ps_if (pt_cmpR (op_eqD hr.units) (pv 0) (pe_lst pa_nil) (nomark _))
   (pss_one (ps_ret pe_int))
   pss_nil)
  (pss_one (ps_ret (pe_bm PySem.F.plainAttrs_list PySem.F.slot_list_pop PySem.F.type_list_pop mt_popAt (pv 0) (pa_cons pe_int pa_nil))))), ?_⟩
    refine ⟨.ref a, rfl, Nat.zero_le _, fun p np => ?_⟩
    have ne : a ≠ p := ne_of_none ha np
    have ha1 : upd H p (.lst []) a = some (LI ns) := by rw [upd_ne ne]; exact ha
    have s1 : SameBut a H (upd H p (.lst [])) := .of (same_upd np)
    refine ⟨_, _, dp_ints (SqL.of ha1), dp_ints (ns := []) (SqL.of upd_same), shaped_ints _, shaped_ints _, _, rfl, ite2 (fun e => ?_) (fun e => ?_)⟩
    · rw [eqv_ints] at e
      have e2 : ns = [] := of_decide_eq_true e
      subst e2
      exact q _ s1 ha1
    · rw [eqv_ints] at e
      cases ns with
      | nil => exact absurd (decide_eq_true rfl) e
      | cons n r =>
        refine ⟨.ref a, rfl, .inl ⟨rfl, _, SqL.of ha1⟩, a, _, 0, 0, .int n, rfl, rfl, ha1, by decide, by decide, ?_, rfl, ?_⟩
        · rw [List.length_map, List.length_cons]
          exact (ixN_seq (ixN_nat (Nat.succ_pos _))).1
        · exact q _ (s1.trans .upd) upd_same
end
/-! ### _law_mix, _law_draws -/
abbrev s_law_mix : Stmt := topS 30
abbrev N_law_mix : List Str := ["_law_cell", "_law_turn", "_law_number"]
theorem sc_law_mix : FnScope N_law_mix ["_law_cell", "_law_turn"] (defScope s_law_mix) := ⟨rfl, rfl, rfl, by decide +kernel, rfl, by decide +kernel, by decide +kernel⟩

abbrev s_law_draws : Stmt := topS 31
abbrev N_law_draws : List Str := ["_law_script", "_law_turn", "_law_many", "_law_cells", "_law_lefts", "_law_found", "_law_k", "_law_at", "_law_number", "_law_cell"]
theorem sc_law_draws : FnScope N_law_draws ["_law_script", "_law_turn", "_law_many"] (defScope s_law_draws) := ⟨rfl, rfl, rfl, by decide +kernel, rfl, by decide +kernel, by decide +kernel⟩

theorem cut_to (ns : List Int) (k : Nat) : cutV (ns.map V.int) none (some (k : Int)) = (ns.take k).map V.int := by
  unfold cutV
  rw [HT.sIx_nat, HT.sIx_none, List.drop_zero, Nat.sub_zero, List.map_take]
  exact (List.take_eq_take_iff).mpr (by omega)
theorem cut_ints (ns : List Int) (lo hi : Option Int) : ∃ ms : List Int, cutV (ns.map V.int) lo hi = ms.map V.int ∧ ms.length ≤ ns.length := by
  refine ⟨(ns.drop (HT.sIx (ns.map V.int).length 0 lo)).take (HT.sIx (ns.map V.int).length (ns.map V.int).length hi - HT.sIx (ns.map V.int).length 0 lo), ?_, ?_⟩
  · unfold cutV
    rw [List.map_take, List.map_drop]
  · rw [List.length_take, List.length_drop]
    omega
def sp_mix : Sp := fun vs H Q _ => ∃ (c : Int) (t : Nat), vs = [.int c, .int t] ∧ t ≤ 5000 ∧ ∀ n : Int, 0 ≤ n → n < 2147483629 → Q (.int n) H
def sp_draws (K : PySem.W.Frag) : Sp := fun vs H Q _ => ∃ (a : Addr) (ns : List Int) (t m : Nat), vs = [.ref a, .int t, .int m] ∧ SqL K H a (ns.map V.int) ∧ ns.length ≤ 1000 ∧ t ≤ 1000 ∧ m ≤ 1000 ∧
  ∀ H' p ds, Same H H' → H p = none → H' p = some (LI ds) → Q (.ref p) H'
section
variable {P : Program} {w : World} {K : PySem.W.Frag} {mg : Str → Option Value} {base : Heap}
theorem ok_mix {f : Addr} {fd : FuncData} {k : Nat} (D : Def K mg "_law_mix" s_law_mix ["_law_cell", "_law_turn"] f fd) : FnOk P w K mg base CX0 (k + 1) f fd ["_law_cell", "_law_turn"] sp_mix := by
  refine D.F.ok sc_law_mix (fun vs H Q E h => ?_) (fun cdv A outer s H vs Q E hr h => ?_)
  · obtain ⟨c, t, rfl, _⟩ := h
    rfl
  · obtain ⟨c, t, rfl, ht, q⟩ := h
    have mb : ∀ z : Int, -(2 ^ 64) < z % 2147483647 ∧ z % 2147483647 < 2 ^ 64 := fun z => by omega
    refine ⟨_, (pss_cons (ps_set (i := 2) sc_law_mix.nd rfl (Or.inl rfl) (pe_op op_mod (pe_op op_mul (pe_op op_add (pe_op op_add (pe_op op_mod (pv 0) pe_int) (pe_op op_mul (pe_op op_mul (pv 1) (pv 1)) pe_int)) pe_int) pe_int) pe_int))
  (pss_one (ps_ret (pe_op op_mod (pe_op op_add (pe_op op_mul (pv 2) (pv 2)) (pe_op op_mul pe_int (pv 1))) pe_int)))), ?_⟩
    refine ⟨_, rfl, _, _, rfl, rfl, (by show (0 : Int) < _; decide), _, rfl, _, rfl, _, _, rfl, rfl, .inl ⟨by omega, by omega⟩, _, _, rfl, rfl, .inr ⟨by decide, by decide⟩, _, _, rfl, rfl, _, _, rfl, rfl, _, _, rfl, rfl, .inr ⟨by decide, by decide⟩, _, _, rfl, rfl, (by show (0 : Int) < _; decide), ?_⟩
    refine ⟨_, rfl, _, rfl, _, _, rfl, rfl, .inl (mb _), _, rfl, _, _, rfl, rfl, .inl ⟨by decide, by decide⟩, _, _, rfl, rfl, _, _, rfl, rfl, (by show (0 : Int) < _; decide), ?_⟩
    exact q _ (Int.emod_nonneg _ (by decide)) (Int.emod_lt_of_pos _ (by decide))
theorem ok_draws {f f1 : Addr} {fd fd1 : FuncData} {k : Nat} (M : Names mg) (D : Def K mg "_law_draws" s_law_draws ["_law_script", "_law_turn", "_law_many"] f fd) (D_law_mix : Def K mg "_law_mix" s_law_mix ["_law_cell", "_law_turn"] f1 fd1) :
    FnOk P w K mg base CX0 (k + 2) f fd ["_law_script", "_law_turn", "_law_many"] (sp_draws K) := by
  have G_law_mix : FnOk P w K mg base CX0 (k + 1) f1 fd1 ["_law_cell", "_law_turn"] sp_mix := ok_mix D_law_mix
  refine D.F.ok sc_law_draws (fun vs H Q E h => ?_) (fun cdv A outer s H vs Q E hr h => ?_)
  · obtain ⟨a, ns, t, m, rfl, _⟩ := h
    rfl
  · obtain ⟨a, ns, t, m, rfl, hS, hl, ht, hm, q⟩ := h
    refine ⟨_, (pss_cons (ps_set (i := 3) sc_law_draws.nd rfl (Or.inl rfl) (pe_op op_cat (pe_slice sl_list (pv 0) po_none (po_some pe_int)) (pe_lst (pa_cons (pv 1) pa_nil))))
  (pss_cons (ps_setLc (i := 4) (own := [("_law_cell", 9)]) (by rfl) sc_law_draws.nd rfl rfl (sw_true rfl rfl rfl (by decide +kernel)) (pi_list (pv 3)) (blkOk_by (own := [("_law_cell", 9)]) (N := N_law_draws) (sc := defScope s_law_draws) (by decide +kernel)) (fun _ _ _ _ _ => (pg_name (i := 9) sc_law_draws.nd rfl (Or.inl rfl))) (fun _ _ _ _ _ => pts_nil) (fun _ _ _ _ _ => (pe_op op_fdiv (pv 9) pe_int)))
  (pss_cons (ps_set (i := 5) sc_law_draws.nd rfl (Or.inl rfl) (pe_lst pa_nil))
  (pss_cons (ps_for PassesOwn.never rfl (pi_range1 (by rfl) M.range (pa_cons (pe_op op_add (pv 1) (pv 2)) pa_nil)) (pg_name (i := 6) sc_law_draws.nd rfl (Or.inl rfl))
   (pss_cons (ps_set (i := 7) sc_law_draws.nd rfl (Or.inl rfl) (pe_op op_mod (pv 6) (pe_callB call_len_seq (by rfl) M.len (by decide +kernel) (pa_cons (pv 3) pa_nil))))
  (pss_cons (ps_set (i := 8) sc_law_draws.nd rfl (Or.inl rfl) (pe_call G_law_mix hr (by rfl) D_law_mix.g D_law_mix.F.kp D_law_mix.b .nil pass0 (pa_cons (pe_ix ix_list (pv 3) (pv 7) (fun _ _ => rfl)) (pa_cons (pv 6) pa_nil))))
  (pss_cons (ps_set (i := 8) sc_law_draws.nd rfl (Or.inl rfl) (pe_op op_mod (pe_op op_add (pe_op op_mul (pv 8) (pv 8)) (pe_op op_mul pe_int (pv 6))) pe_int))
  (pss_cutI (ps_if (PW.pt (pw_and (pt_cmpR op_ge (pe_ix ix_list (pv 3) (pv 7) (fun _ _ => rfl)) (pe_op op_pow pe_int pe_int) (nomark _)) (pw_and1 (pt_cmpR op_gt (pe_ix ix_list (pv 4) (pv 7) (fun _ _ => rfl)) pe_int (nomark _)))))
   (pss_cons (ps_set (i := 8) sc_law_draws.nd rfl (Or.inl rfl) (pe_op op_mod (pe_ix ix_list (pv 4) (pv 7) (fun _ _ => rfl)) pe_int))
  (pss_one (ps_asg (pe_op op_fdivW (pe_ix ix_list (pv 4) (pv 7) (fun _ _ => rfl)) pe_int) (pg_sub (pv 4) (pv 7) set_list))))
   pss_nil)
  (pss_one (ps_expr (pe_bm PySem.F.plainAttrs_list PySem.F.slot_list_append PySem.F.type_list_append mt_append (pv 5) (pa_cons (pv 8) pa_nil)))))))))
  (pss_one (ps_ret (pe_slice sl_list (pv 5) (po_some (pv 1)) po_none))))))), ?_⟩
    refine ⟨.ref a, rfl, 63, rfl, a, ns.map V.int, rfl, hS, fun c nc => ?_⟩
    refine ⟨.int t, rfl, by show 1 ≤ sizeLine; decide, fun u nu => ?_⟩
    have hcu : c ≠ u := ne_of_none upd_same nu
    have hc : (upd (upd H c (.lst (cutV (ns.map V.int) none (some 63)))) u (.lst [.int (t : Int)])) c = some (.lst (cutV (ns.map V.int) none (some 63))) := by
      rw [upd_ne hcu]
      exact upd_same
    have hlen := cutV_length (ns.map V.int) none (some 63)
    rw [List.length_map] at hlen
    refine ⟨c, u, _, _, rfl, rfl, hc, upd_same, szL (by rw [show ([V.int (t : Int)] : List V).length = 1 from rfl]; omega), fun e ne => ?_⟩
    obtain ⟨cs, ecs, hcs1, hcs2⟩ : ∃ cs : List Int, cutV (ns.map V.int) none (some 63) ++ [V.int (t : Int)] = cs.map V.int ∧ 0 < cs.length ∧ cs.length ≤ 2000 := by
      refine ⟨ns.take 63 ++ [(t : Int)], ?_, ?_, ?_⟩
      · rw [show (63 : Int) = ((63 : Nat) : Int) from rfl, cut_to, List.map_append]
        rfl
      · rw [List.length_append]
        exact Nat.succ_pos _
      · rw [List.length_append, List.length_take, List.length_singleton]
        omega
    have s1 : Same H (upd (upd (upd H c (.lst (cutV (ns.map V.int) none (some 63)))) u (.lst [.int (t : Int)])) e (.lst (cutV (ns.map V.int) none (some 63) ++ [.int (t : Int)]))) :=
      ((same_upd nc).trans (same_upd nu)).trans (same_upd ne)
    have he1 : (upd (upd (upd H c (.lst (cutV (ns.map V.int) none (some 63)))) u (.lst [.int (t : Int)])) e (.lst (cutV (ns.map V.int) none (some 63) ++ [.int (t : Int)]))) e = some (LI cs) := by
      rw [upd_same, ecs]
    generalize (upd (upd (upd H c (.lst (cutV (ns.map V.int) none (some 63)))) u (.lst [.int (t : Int)])) e (.lst (cutV (ns.map V.int) none (some 63) ++ [.int (t : Int)]))) = H2 at s1 he1 ⊢
    -- lefts
    refine ⟨.ref e, rfl, e, rfl, ⟨_, SqL.of he1⟩, fun B nB => lc_list (xs := cs.map V.int) (fun i H' => Same H2 H' ∧ ∃ ls : List Int, H' B = some (LI ls) ∧ ls.length = i) ⟨same_upd nB, [], upd_same, rfl⟩ (fun i H' _ hp => SqL.of (hp.1 _ _ he1)) (fun i x H' hx hp => ?_) (fun H3 hp => ?_)⟩
    · obtain ⟨s3, ls, hB, hls⟩ := hp
      obtain ⟨n, hn, rfl⟩ := of_get_ints hx
      have hi : i < cs.length := (List.getElem?_eq_some_iff.mp hn).1
      refine ⟨rfl, _, rfl, _, _, rfl, rfl, ⟨by decide, by decide⟩, _, hB, szL' (by rw [List.length_map]; omega), sm_new s3 nB, ls ++ [n / 100000], ?_, by rw [List.length_append, hls]; rfl⟩
      exact at_app
    · obtain ⟨s3, ls, hB, hls⟩ := hp
      rw [List.length_map] at hls
      have s3' := s1.trans s3
      have he3 := s3 _ _ he1
      have neB : e ≠ B := ne_of_none he1 nB
      have nBH : H B = none := s1.free nB
      -- found = []
      refine ⟨Nat.zero_le _, fun o no => ?_⟩
      have noB : B ≠ o := ne_of_none hB no
      have noe : e ≠ o := ne_of_none he3 no
      have noH : H o = none := s3'.free no
      have s4 := s3'.trans (same_upd (o := .lst []) no)
      have he4 := (same_upd (o := .lst []) no) _ _ he3
      have hB4 := (same_upd (o := .lst []) no) _ _ hB
      have ho4 : (upd H3 o (.lst [])) o = some (LI []) := upd_same
      generalize (upd H3 o (.lst [])) = H4 at s4 he4 hB4 ho4 ⊢
      refine ⟨_, rfl, _, rfl, _, _, rfl, rfl, _, rfl, by omega, by omega, for_range (n := ((t : Int) + (m : Int)).toNat) (fun i σ H' => ∃ y6 y7 y8, σ = [some (.ref a), some (.int t), some (.int m), some (.ref e), some (.ref B), some (.ref o), y6, y7, y8, none] ∧ Same H H' ∧ H' e = some (LI cs) ∧
        (∃ ds : List Int, H' o = some (LI ds) ∧ ds.length ≤ i) ∧ ∃ ls : List Int, H' B = some (LI ls) ∧ ls.length = cs.length) ⟨none, none, none, rfl, s4, he4, ⟨[], ho4, Nat.zero_le _⟩, ls, hB4, hls⟩ (fun i σ H5 hi hp => ?_) (fun σ H5 hp => ?_)⟩
      · obtain ⟨y6, y7, y8, rfl, s5, he5, ⟨ds, ho5, hds⟩, ls, hB5, hls⟩ := hp
        obtain ⟨j, hj, ej⟩ := mod_at (i := (0 : Int) + (i : Nat)) (n := (cs.map V.int).length) (by rw [List.length_map]; omega)
        rw [List.length_map] at hj
        refine ⟨_, rfl, _, rfl, e, _, rfl, .inl (SqL.of he5), _, _, rfl, rfl, by rw [List.length_map]; omega, ?_⟩
        -- mix
        refine ⟨_, rfl, _, rfl, e, _, _, _, rfl, rfl, SqL.of he5, at_of ej (getD_ints hj), _, rfl, _, i, by show [V.int _, V.int (0 + (i : Int))] = _; rw [Int.zero_add], by omega, fun n n0 n1 => ?_⟩
        refine ⟨_, rfl, _, rfl, _, _, rfl, rfl, .inl ⟨by omega, by omega⟩, _, rfl, _, _, rfl, rfl, .inl ⟨by decide, by decide⟩, _, _, rfl, rfl, _, _, rfl, rfl, (by show (0 : Int) < _; decide), ?_⟩
        refine ⟨fun σ' H' => ∃ n8 : Int, σ' = [some (.ref a), some (.int t), some (.int m), some (.ref e), some (.ref B), some (.ref o), some (.int (0 + (i : Nat))), some (.int ((0 + (i : Int)) % ((cs.map V.int).length : Int))), some (.int n8), none] ∧ Same H H' ∧ H' e = some (LI cs) ∧ H' o = some (LI ds) ∧ ∃ ls : List Int, H' B = some (LI ls) ∧ ls.length = cs.length, ?_, fun σ6 H6 hI => ?_⟩
        · refine ⟨_, rfl, _, rfl, e, _, _, _, rfl, rfl, SqL.of he5, at_of ej (getD_ints hj), _, _, rfl, rfl, ⟨by decide, by decide, by decide⟩, _, _, rfl, rfl, _, rfl, ite2 (fun _ => ?_) (fun _ => ?_)⟩
          · refine ⟨_, rfl, _, rfl, B, _, _, _, rfl, rfl, SqL.of hB5, at_of ej (getD_ints (ns := ls) (by omega)), _, _, rfl, rfl, _, rfl, ite2 (fun _ => ?_) (fun _ => ?_)⟩
            · refine ⟨_, rfl, _, rfl, B, _, _, _, rfl, rfl, SqL.of hB5, at_of ej (getD_ints (ns := ls) (by omega)), _, _, rfl, rfl, (by show (0 : Int) < _; decide), ?_⟩
              refine ⟨_, rfl, _, rfl, B, _, _, _, rfl, rfl, SqL.of hB5, at_of ej (getD_ints (ns := ls) (by omega)), _, _, rfl, rfl, wide_div (b := 32) (by decide) (by decide) (by decide) (by decide), _, rfl, _, rfl, B, _, _, j, rfl, rfl, hB5, by rw [ej, List.length_map]; exact ixN_nat (by omega), ?_⟩
              refine ⟨_, rfl, sm_new s5 nBH, ?_, ?_, ls.set j (ls[j] / 2147483587), at_set, by rw [List.length_set]; exact hls⟩
              · rw [upd_ne neB]
                exact he5
              · rw [upd_ne noB.symm]
                exact ho5
            · exact ⟨_, rfl, s5, he5, ho5, ls, hB5, hls⟩
          · exact ⟨_, rfl, s5, he5, ho5, ls, hB5, hls⟩
        · obtain ⟨n8, rfl, s6, he6, ho6, ls, hB6, hls⟩ := hI
          refine ⟨_, rfl, .inl ⟨rfl, _, SqL.of ho6⟩, _, rfl, o, _, _, rfl, rfl, ho6, szL' (by rw [List.length_map]; omega), ?_⟩
          refine ⟨_, _, _, rfl, sm_new s6 noH, ?_, ⟨ds ++ [n8], at_app, by rw [List.length_append, List.length_singleton]; omega⟩, ls, ?_, hls⟩
          · rw [upd_ne noe]
            exact he6
          · rw [upd_ne noB]
            exact hB6
      · obtain ⟨y6, y7, y8, rfl, s5, _, ⟨ds, ho5, hds⟩, _⟩ := hp
        refine ⟨_, rfl, _, rfl, _, rfl, o, _, rfl, SqL.of ho5, fun R nR => ?_⟩
        obtain ⟨ms, ems, _⟩ := cut_ints ds (some (t : Int)) none
        rw [ems]
        exact q _ R ms (s5.trans (same_upd nR)) (s5.free nR) upd_same
end
/-! ### _law_cut, _law_content, _law_price, _law_tiers, _law_want -/
abbrev s_law_cut : Stmt := topS 33
abbrev N_law_cut : List Str := ["_law_row", "_law_every", "_law_one"]
theorem sc_law_cut : FnScope N_law_cut ["_law_row"] (defScope s_law_cut) := ⟨rfl, rfl, rfl, by decide +kernel, rfl, by decide +kernel, by decide +kernel⟩

def sp_cut : Sp := fun vs H Q _ => ∃ (r : Addr) (ws : List Int), vs = [.ref r] ∧ H r = some (LI ws) ∧ Small ws ∧ 1 ≤ ws.length ∧ ws.length ≤ 1000 ∧
  ∀ H' ws', SameBut r H H' → H' r = some (LI ws') → ws'.length = ws.length → Small ws' → casesM ws' ≤ 400 → LeW ws' ws → Q (.ref r) H'
theorem set_le : ∀ {ws : List Int} {j : Nat} {x y : Int}, (∀ x ∈ ws, 0 ≤ x) → ws[j]? = some x → 0 ≤ y → y ≤ x → LeW (ws.set j y) ws
  | [], _, _, _, _, h, _, _ => by simp at h
  | a :: r, 0, x, y, h0, h, hy, hle => by
    cases Option.some.inj h
    exact ⟨hy, hle, LeW.refl fun z hz => h0 z (List.mem_cons_of_mem _ hz)⟩
  | a :: r, j + 1, x, y, h0, h, hy, hle => ⟨h0 a List.mem_cons_self, Int.le_refl _, set_le (fun z hz => h0 z (List.mem_cons_of_mem _ hz)) (show r[j]? = some x from h) hy hle⟩
theorem cut_body {ws : List Int} (sm : Small ws) (hc : casesM ws > 400) {mx : Int} (hmx : mx ∈ ws) (hle : ∀ y, y ∈ ws → y ≤ mx) : ∃ j : Nat, ws[j]? = some mx ∧ (∀ (m' : Nat) (z' : V), m' < j → (ws.map V.int)[m']? = some z' → eqV z' (.int mx) = false) ∧ j < ws.length ∧ Small (ws.set j (mx - 1)) ∧ (ws.set j (mx - 1)).sum < ws.sum ∧ LeW (ws.set j (mx - 1)) ws := by
  obtain ⟨j, h1, h2⟩ := first_at hmx
  have pos : 1 ≤ mx := by
    rcases Int.lt_or_le mx 1 with z | z
    · have e : casesM ws = 1 := casesM_zero ws 1 fun w hw => by
        have a1 := hle w hw
        have a2 := sm w hw
        omega
      omega
    · exact z
  have b := sm mx hmx
  refine ⟨j, h1, fun m' z' hm hz => ?_, (List.getElem?_eq_some_iff.mp h1).1, fun w hw => ?_, ?_, set_le (fun x hx => (sm x hx).1) h1 (by omega) (by omega)⟩
  · obtain ⟨y, hy, rfl⟩ := of_get_ints hz
    have := h2 m' y hm hy
    show (y == mx) = false
    exact beq_eq_false_iff_ne.mpr this
  · rcases List.mem_or_eq_of_mem_set hw with z | z
    · exact sm w z
    · omega
  · rw [sum_set h1]
    omega
section
variable {P : Program} {w : World} {K : PySem.W.Frag} {mg : Str → Option Value} {base : Heap}
theorem ok_cut {f : Addr} {fd : FuncData} {k : Nat} (M : Names mg) (D : Def K mg "_law_cut" s_law_cut ["_law_row"] f fd) : FnOk P w K mg base CX0 (k + 1) f fd ["_law_row"] sp_cut := by
  refine D.F.ok sc_law_cut (fun vs H Q E h => ?_) (fun cdv A outer s H vs Q E hr h => ?_)
  · obtain ⟨r, ws, rfl, _⟩ := h
    rfl
  · obtain ⟨r, ws, rfl, hrr, sm, hl1, hl2, q⟩ := h
    refine ⟨_, (pss_cons (ps_set (i := 1) sc_law_cut.nd rfl (Or.inl rfl) pe_int)
  (pss_cons (ps_while PassesOwn.never (pt_cmpR op_gt (pv 1) pe_int (nomark _))
   (pss_cons (ps_set (i := 1) sc_law_cut.nd rfl (Or.inl rfl) pe_int)
  (pss_cons (ps_for PassesOwn.never rfl (pi_list (pv 0)) (pg_name (i := 2) sc_law_cut.nd rfl (Or.inl rfl))
   (pss_one (ps_set (i := 1) sc_law_cut.nd rfl (Or.inl rfl) (pe_op op_mul (pv 1) (pe_op op_add (pv 2) pe_int)))))
  (pss_one (ps_if (pt_cmpR op_gt (pv 1) pe_int (nomark _))
   (pss_one (ps_asg (pe_op op_sub (pe_callB (cr_max rfl) (by rfl) M.max (by decide +kernel) (pa_cons (pv 0) pa_nil)) pe_int) (pg_sub (pv 0) (pe_bm PySem.F.plainAttrs_list PySem.F.slot_list_index PySem.F.type_list_index mt_index (pv 0) (pa_cons (pe_callB (cr_max rfl) (by rfl) M.max (by decide +kernel) (pa_cons (pv 0) pa_nil)) pa_nil)) set_list)))
   pss_nil)))))
  (pss_one (ps_ret (pv 0))))), ?_⟩
    refine ⟨fun μ σ H' => ∃ (ev : Int) (y2 : Option V) (us : List Int), σ = [some (.ref r), some (.int ev), y2] ∧ SameBut r H H' ∧ H' r = some (LI us) ∧ us.length = ws.length ∧ Small us ∧ LeW us ws ∧ ((ev > 400 ∧ μ = us.sum.toNat + 1) ∨ (ev ≤ 400 ∧ casesM us ≤ 400 ∧ μ = 0)), ⟨_, 401, none, ws, rfl, .refl _ _, hrr, rfl, sm, LeW.refl (fun x hx => (sm x hx).1), .inl ⟨by decide, rfl⟩⟩, fun μ σ H1 hW => ?_⟩
    obtain ⟨ev, y2, us, rfl, s1, hr1, hlu, smu, leu, hμ⟩ := hW
    refine ⟨_, rfl, _, _, rfl, rfl, _, rfl, ite2 (fun c => ?_) (fun c => ?_)⟩
    · have c' : ev > 400 := of_decide_eq_true c
      have eμ : μ = us.sum.toNat + 1 := by
        rcases hμ with h | h
        · exact h.2
        · exact absurd h.1 (by omega)
      have us0 := sumI_nonneg fun x hx => (smu x hx).1
      refine ⟨fun σ' H' => ∃ μ', μ' < μ ∧ ∃ (ev : Int) (y2 : Option V) (us : List Int), σ' = [some (.ref r), some (.int ev), y2] ∧ SameBut r H H' ∧ H' r = some (LI us) ∧ us.length = ws.length ∧ Small us ∧ LeW us ws ∧ ((ev > 400 ∧ μ' = us.sum.toNat + 1) ∨ (ev ≤ 400 ∧ casesM us ≤ 400 ∧ μ' = 0)), fun σ' H' hN => hN, ?_⟩
      refine ⟨_, rfl, r, rfl, ⟨_, SqL.of hr1⟩, for_list (K := K) (a := r) (xs := us.map V.int) (fun i σ H' => ∃ y, σ = [some (.ref r), some (.int (casesM (us.take i))), y] ∧ H' = H1) ⟨y2, rfl, rfl⟩ (fun i σ H' _ hp => ?_) (fun i x σ H' hx hp => ?_) (fun σ H' hp => ?_)⟩
      · obtain ⟨y, _, rfl⟩ := hp
        exact SqL.of hr1
      · obtain ⟨y, rfl, rfl⟩ := hp
        obtain ⟨n, hn, rfl⟩ := of_get_ints hx
        have b := smu n (List.mem_of_getElem? hn)
        refine ⟨_, rfl, _, rfl, _, _, rfl, rfl, _, _, rfl, rfl, .inr ⟨by omega, by omega⟩, some (.int n), ?_, rfl⟩
        rw [casesM_take hn]
        rfl
      · obtain ⟨y, rfl, rfl⟩ := hp
        rw [List.length_map, List.take_length]
        refine ⟨_, rfl, _, _, rfl, rfl, _, rfl, ite2 (fun c2 => ?_) (fun c2 => ?_)⟩
        · have c2' : casesM us > 400 := of_decide_eq_true c2
          refine ⟨_, rfl, r, us, rfl, SqL.of hr1, by omega, fun mx hmx hle => ⟨_, _, rfl, rfl, _, rfl, _, rfl, .inl ⟨rfl, _, SqL.of hr1⟩, _, rfl, r, us, rfl, SqL.of hr1, by omega, fun mx2 hmx2 hle2 => ?_⟩⟩
          have emx : mx2 = mx := Int.le_antisymm (hle mx2 hmx2) (hle2 mx hmx)
          subst emx
          obtain ⟨j, b1, b2, b3, b4, b5, b6⟩ := cut_body smu c2' hmx hle
          have p0 := sumI_nonneg fun x hx => (b4 x hx).1
          refine ⟨r, _, _, j, _, rfl, rfl, SqL.of hr1, rfl, by simp [flatV], get_ints b1, by show (mx2 == mx2) = true; exact beq_self_eq_true _, b2, r, _, _, j, rfl, rfl, hr1, by rw [List.length_map]; exact ixN_nat b3, ?_⟩
          refine ⟨(us.set j (mx2 - 1)).sum.toNat + 1, by omega, _, _, us.set j (mx2 - 1), rfl, s1.trans .upd, at_set, by rw [List.length_set]; exact hlu, b4, b6.trans leu, .inl ⟨c2', rfl⟩⟩
        · have c2' : casesM us ≤ 400 := Int.not_lt.mp fun z => c2 (decide_eq_true z)
          exact ⟨0, by omega, _, _, us, rfl, s1, hr1, hlu, smu, leu, .inr ⟨c2', c2', rfl⟩⟩
    · have c' : ev ≤ 400 := Int.not_lt.mp fun z => c (decide_eq_true z)
      rcases hμ with h | h
      · exact absurd h.1 (by omega)
      · exact ⟨_, rfl, q H1 us s1 hr1 hlu smu h.2.1 leu⟩
end
/-! ### tiers that rise -/
def sp_tiers : Sp := fun vs H Q _ => ∃ (a : Addr) (ns : List Int), vs = [.ref a] ∧ H a = some (LI ns) ∧
  ∀ H' p ts ns', SameBut a H H' → H p = none → TiersAt (cutH a H') p ts → GoodT ts → PriceT ts → H' a = some (LI ns') → Q (.ref p) H'
structure RiseT (ts : List (Int × Int)) (z : Int) (i : Nat) : Prop where
  few : ts.length ≤ i
  none : ts = [] → z = 1 ∧ i = 0
  one : ∀ t, ts[0]? = some t → t.1 = 1
  most : ∀ t ∈ ts, t.1 ≤ 12 ∧ t.1 < z
  rise : ∀ (i : Nat) a b, ts[i]? = some a → ts[i + 1]? = some b → a.1 < b.1
  pr : PriceT ts
theorem RiseT.push {ts : List (Int × Int)} {z z' p : Int} {i : Nat} (h : RiseT ts z i) (hz : z < 13) (hz' : z < z') (h0 : 0 ≤ p) (h1 : p < 1000000000000) : RiseT (ts ++ [(z, p)]) z' (i + 1) := by
  refine ⟨?_, fun e => ?_, fun t e => ?_, fun t ht => ?_, fun j a b ha hb => ?_, fun t ht => ?_⟩
  · have := h.few
    rw [List.length_append, List.length_singleton]
    omega
  · simp at e
  · cases hts : ts with
    | nil =>
      rw [hts] at e
      cases Option.some.inj e
      exact (h.none hts).1
    | cons x r =>
      rw [hts] at e
      exact h.one t (by rw [hts]; exact e)
  · rcases List.mem_append.mp ht with m | m
    · have := h.most t m
      exact ⟨this.1, by omega⟩
    · rw [List.mem_singleton.mp m]
      exact ⟨by show z ≤ 12; omega, hz'⟩
  · by_cases c : j + 1 < ts.length
    · rw [List.getElem?_append_left (by omega)] at ha
      rw [List.getElem?_append_left c] at hb
      exact h.rise j a b ha hb
    · have hj : j + 1 = ts.length := by
        have := (List.getElem?_eq_some_iff.mp hb).1
        rw [List.length_append, List.length_singleton] at this
        omega
      rw [List.getElem?_append_left (by omega)] at ha
      rw [List.getElem?_append_right (by omega), hj, Nat.sub_self] at hb
      cases Option.some.inj hb
      exact (h.most a (List.mem_of_getElem? ha)).2
  · rcases List.mem_append.mp ht with m | m
    · exact h.pr t m
    · rw [List.mem_singleton.mp m]
      exact ⟨h0, h1⟩
theorem RiseT.pass {ts : List (Int × Int)} {z z' : Int} {i : Nat} (h : RiseT ts z i) (hz : ¬z < 13) (hz' : z < z') : RiseT ts z' (i + 1) := by
  refine ⟨by have := h.few; omega, fun e => ?_, h.one, fun t ht => ?_, h.rise, h.pr⟩
  · have := h.none e
    omega
  · have := h.most t ht
    exact ⟨this.1, by omega⟩
theorem RiseT.good {ts : List (Int × Int)} {z : Int} {i : Nat} (h : RiseT ts z i) (h1 : 1 ≤ i) (h4 : i ≤ 4) : GoodT ts := by
  refine ⟨?_, by have := h.few; omega, h.one, fun t ht => (h.most t ht).1, h.rise⟩
  rcases Nat.eq_zero_or_pos ts.length with z | z
  · have := (h.none (List.eq_nil_of_length_eq_zero z)).2
    omega
  · exact z
abbrev s_law_content : Stmt := topS 34
abbrev N_law_content : List Str := ["_law_draws_here", "_law_many", "_law_most", "_law_number", "_law_content_here", "_law_thing"]
theorem sc_law_content : FnScope N_law_content ["_law_draws_here", "_law_many", "_law_most"] (defScope s_law_content) := ⟨rfl, rfl, rfl, by decide +kernel, rfl, by decide +kernel, by decide +kernel⟩

def sp_content : Sp := fun vs H Q _ => ∃ (a : Addr) (ns : List Int) (m most : Nat), vs = [.ref a, .int m, .int most] ∧ H a = some (LI ns) ∧ 1 ≤ m ∧ m ≤ 4 ∧ 1 ≤ most ∧ most ≤ 9 ∧
  ∀ H' p ws ns', SameBut a H H' → H p = none → p ≠ a → H' p = some (LI ws) → H' a = some (LI ns') → ws.length = m → Small ws → Q (.ref p) H'
theorem menu4s {a b c e : Int} {j : Nat} (h : j < 4) (h1 : 0 ≤ a ∧ a ≤ 9) (h2 : 0 ≤ b ∧ b ≤ 9) (h3 : 0 ≤ c ∧ c ≤ 9) (h4 : 0 ≤ e ∧ e ≤ 9) : ∃ v : Int, ([V.int a, V.int b, V.int c, V.int e] : List V)[j]? = some (.int v) ∧ 0 ≤ v ∧ v ≤ 9 :=
  match j, h with
  | 0, _ => ⟨a, rfl, h1⟩
  | 1, _ => ⟨b, rfl, h2⟩
  | 2, _ => ⟨c, rfl, h3⟩
  | 3, _ => ⟨e, rfl, h4⟩
section
variable {P : Program} {w : World} {K : PySem.W.Frag} {mg : Str → Option Value} {base : Heap}
theorem ok_content {f f1 f2 : Addr} {fd fd1 fd2 : FuncData} {k : Nat} (M : Names mg) (D : Def K mg "_law_content" s_law_content ["_law_draws_here", "_law_many", "_law_most"] f fd) (D_law_pop : Def K mg "_law_pop" s_law_pop ["_law_draws_here"] f1 fd1) (D_law_cut : Def K mg "_law_cut" s_law_cut ["_law_row"] f2 fd2) :
    FnOk P w K mg base CX0 (k + 2) f fd ["_law_draws_here", "_law_many", "_law_most"] sp_content := by
  have G_law_pop : FnOk P w K mg base CX0 (k + 1) f1 fd1 ["_law_draws_here"] sp_pop := ok_pop D_law_pop
  have G_law_cut : FnOk P w K mg base CX0 (k + 1) f2 fd2 ["_law_row"] sp_cut := ok_cut M D_law_cut
  refine D.F.ok sc_law_content (fun vs H Q E h => ?_) (fun cdv A outer s H vs Q E hr h => ?_)
  · obtain ⟨a, ns, m, most, rfl, _⟩ := h
    rfl
  · obtain ⟨a, ns, m, most, rfl, ha, hm1, hm4, hmo1, hmo9, q⟩ := h
    refine ⟨_, (pss_cons (ps_set (i := 3) sc_law_content.nd rfl (Or.inl rfl) (pe_call G_law_pop hr (by rfl) D_law_pop.g D_law_pop.F.kp D_law_pop.b .nil pass0 (pa_cons (pv 0) pa_nil)))
  (pss_cons (ps_set (i := 4) sc_law_content.nd rfl (Or.inl rfl) (pe_lst pa_nil))
  (pss_cons (ps_for PassesOwn.never rfl (pi_range1 (by rfl) M.range (pa_cons (pv 1) pa_nil)) (pg_name (i := 5) sc_law_content.nd rfl (Or.inl rfl))
   (pss_cons (ps_expr (pe_bm PySem.F.plainAttrs_list PySem.F.slot_list_append PySem.F.type_list_append mt_append (pv 4) (pa_cons (pe_ix ix_list (pe_lst (pa_cons pe_int (pa_cons pe_int (pa_cons (pe_op op_add pe_int (pe_op op_mod (pv 3) (pv 2))) (pa_cons pe_int pa_nil))))) (pe_op op_mod (pe_op op_fdiv (pv 3) pe_int) pe_int) (fun _ _ => rfl)) pa_nil)))
  (pss_one (ps_set (i := 3) sc_law_content.nd rfl (Or.inl rfl) (pe_op op_fdiv (pv 3) pe_int)))))
  (pss_cutI (ps_if (pt_cmpR op_eq (pe_callB (cr_sum rfl) (by rfl) M.sum (by decide +kernel) (pa_cons (pv 4) pa_nil)) pe_int (nomark _))
   (pss_one (ps_asg pe_int (pg_sub (pv 4) (pe_op op_mod (pv 3) (pv 1)) set_list)))
   pss_nil)
  (pss_one (ps_ret (pe_call G_law_cut hr (by rfl) D_law_cut.g D_law_cut.F.kp D_law_cut.b .nil pass0 (pa_cons (pv 4) pa_nil)))))))), ?_⟩
    refine ⟨_, rfl, a, ns, rfl, ha, fun H1 s1 ha1 => ?_⟩
    generalize ns.headD 0 = n0
    generalize ns.tail = ns1 at ha1
    refine ⟨Nat.zero_le _, fun C nC => ?_⟩
    have nCa : C ≠ a := (ne_of_none ha1 nC).symm
    have nCH : H C = none := s1.free nC (by rw [ha1]; exact fun z => nomatch z)
    have s2 : SameBut a H (upd H1 C (.lst [])) := s1.trans (.of (same_upd nC))
    have ha2 : upd H1 C (.lst []) a = some (LI ns1) := (same_upd nC) _ _ ha1
    have hC2 : upd H1 C (.lst []) C = some (LI []) := upd_same
    generalize upd H1 C (.lst []) = H2 at s2 ha2 hC2 ⊢
    refine ⟨_, rfl, _, rfl, by omega, by omega, for_range (n := (m : Int).toNat) (fun i σ H' => ∃ (n : Int) (y5 : Option V) (ws : List Int), σ = [some (.ref a), some (.int m), some (.int most), some (.int n), some (.ref C), y5] ∧ SameBut a H H' ∧ H' a = some (LI ns1) ∧ H' C = some (LI ws) ∧ ws.length = i ∧ Small ws) ⟨n0, none, [], rfl, s2, ha2, hC2, rfl, fun w hw => nomatch hw⟩ (fun i σ H3 hi hp => ?_) (fun σ H3 hp => ?_)⟩
    · obtain ⟨n, y5, ws, rfl, s3, ha3, hC3, hl, sm⟩ := hp
      have mo0 : (0 : Int) < (most : Int) := by omega
      have r1 := Int.emod_nonneg n (show (most : Int) ≠ 0 by omega)
      have r2 := Int.emod_lt_of_pos n mo0
      refine ⟨_, rfl, .inl ⟨rfl, _, SqL.of hC3⟩, _, rfl, _, rfl, _, _, rfl, rfl, mo0, _, _, rfl, rfl, by show 4 ≤ sizeLine; decide, fun e ne => ?_⟩
      obtain ⟨j, hj, ej⟩ := mod_at (i := n / 16) (n := 4) (by decide)
      obtain ⟨v, hv, hv0, hv1⟩ := menu4s (a := 0) (b := 1) (c := 1 + n % (most : Int)) (e := 1) hj (by omega) (by omega) (by omega) (by omega)
      have se := same_upd (o := .lst [.int 0, .int 1, .int (1 + n % (most : Int)), .int 1]) ne
      have neC : C ≠ e := ne_of_none hC3 ne
      refine ⟨_, rfl, _, _, rfl, rfl, ⟨by decide, by decide⟩, _, _, rfl, rfl, (by show (0 : Int) < _; decide), e, _, _, _, rfl, rfl, SqL.of upd_same, at_of ej hv, C, _, _, rfl, rfl, se _ _ hC3, szL' (by rw [List.length_map]; omega), ?_⟩
      refine ⟨_, rfl, _, _, rfl, rfl, ⟨by decide, by decide⟩, _, _, ws ++ [v], rfl, (s3.trans (.of se)).new nCH, ?_, at_app, by rw [List.length_append, hl]; rfl, sm.app hv0 hv1⟩
      rw [upd_ne nCa.symm]
      exact se _ _ ha3
    · obtain ⟨n, y5, ws, rfl, s3, ha3, hC3, hl, sm⟩ := hp
      rw [Int.toNat_natCast] at hl
      refine ⟨fun σ' H' => ∃ (y5 : Option V) (ws : List Int), σ' = [some (.ref a), some (.int m), some (.int most), some (.int n), some (.ref C), y5] ∧ SameBut a H H' ∧ H' a = some (LI ns1) ∧ H' C = some (LI ws) ∧ ws.length = m ∧ Small ws, ?_, fun σ4 H4 hI => ?_⟩
      · refine ⟨_, rfl, C, ws, rfl, SqL.of hC3, rfl, _, rfl, ite2 (fun _ => ?_) (fun _ => ?_)⟩
        · obtain ⟨j, hj, ej⟩ := mod_at (i := n) (n := m) (by omega)
          refine ⟨_, rfl, _, rfl, _, rfl, _, _, rfl, rfl, (by show (0 : Int) < (m : Int); omega), C, _, _, j, rfl, rfl, hC3, (by rw [ej, List.length_map]; exact ixN_nat (by omega)), ?_⟩
          refine ⟨_, ws.set j 1, rfl, s3.new nCH, ?_, at_set, by rw [List.length_set]; exact hl, fun x hx => ?_⟩
          · rw [upd_ne nCa.symm]
            exact ha3
          · rcases List.mem_or_eq_of_mem_set hx with z | z
            · exact sm x z
            · rw [z]
              omega
        · exact ⟨_, ws, rfl, s3, ha3, hC3, hl, sm⟩
      · obtain ⟨y5, ws, rfl, s4, ha4, hC4, hl, sm⟩ := hI
        refine ⟨_, rfl, C, ws, rfl, hC4, sm, by omega, by omega, fun H5 ws' s5 hC5 hl5 sm5 _ _ => ?_⟩
        refine q H5 C ws' ns1 (fun b o n e => ?_) nCH nCa hC5 (s5 _ _ nCa.symm ha4) (by omega) sm5
        have hb := s4 b o n e
        exact s5 b o (fun z => by rw [z, nCH] at e; cases e) hb
end
abbrev s_law_price : Stmt := topS 35
abbrev N_law_price : List Str := ["_law_draws_here", "_law_number"]
theorem sc_law_price : FnScope N_law_price ["_law_draws_here"] (defScope s_law_price) := ⟨rfl, rfl, rfl, by decide +kernel, rfl, by decide +kernel, by decide +kernel⟩

def sp_price : Sp := fun vs H Q _ => ∃ (a : Addr) (ns : List Int), vs = [.ref a] ∧ H a = some (LI ns) ∧ ∀ H' ns' p, SameBut a H H' → H' a = some (LI ns') → 0 ≤ p → p < 1000000000000 → Q (.int p) H'
theorem menu5 {a b c d e : Int} {j : Nat} (h : j < 5) (h1 : 0 ≤ a ∧ a < 1000000000000) (h2 : 0 ≤ b ∧ b < 1000000000000) (h3 : 0 ≤ c ∧ c < 1000000000000) (h4 : 0 ≤ d ∧ d < 1000000000000) (h5 : 0 ≤ e ∧ e < 1000000000000) : ∃ v : Int, ([V.int a, V.int b, V.int c, V.int d, V.int e] : List V)[j]? = some (.int v) ∧ 0 ≤ v ∧ v < 1000000000000 :=
  match j, h with
  | 0, _ => ⟨a, rfl, h1⟩
  | 1, _ => ⟨b, rfl, h2⟩
  | 2, _ => ⟨c, rfl, h3⟩
  | 3, _ => ⟨d, rfl, h4⟩
  | 4, _ => ⟨e, rfl, h5⟩
section
variable {P : Program} {w : World} {K : PySem.W.Frag} {mg : Str → Option Value} {base : Heap}
theorem ok_price {f f1 : Addr} {fd fd1 : FuncData} {k : Nat} (D : Def K mg "_law_price" s_law_price ["_law_draws_here"] f fd) (D_law_pop : Def K mg "_law_pop" s_law_pop ["_law_draws_here"] f1 fd1) :
    FnOk P w K mg base CX0 (k + 2) f fd ["_law_draws_here"] sp_price := by
  have G_law_pop : FnOk P w K mg base CX0 (k + 1) f1 fd1 ["_law_draws_here"] sp_pop := ok_pop D_law_pop
  refine D.F.ok sc_law_price (fun vs H Q E h => ?_) (fun cdv A outer s H vs Q E hr h => ?_)
  · obtain ⟨a, ns, rfl, _⟩ := h
    rfl
  · obtain ⟨a, ns, rfl, ha, q⟩ := h
    refine ⟨_, (pss_cons (ps_set (i := 1) sc_law_price.nd rfl (Or.inl rfl) (pe_call G_law_pop hr (by rfl) D_law_pop.g D_law_pop.F.kp D_law_pop.b .nil pass0 (pa_cons (pv 0) pa_nil)))
  (pss_one (ps_ret (pe_ix ix_list (pe_lst (pa_cons (pe_op op_mod (pv 1) pe_int) (pa_cons (pe_op op_add pe_int (pe_op op_mod (pv 1) pe_int)) (pa_cons (pe_op op_mod (pv 1) pe_int) (pa_cons (pe_op op_mod (pe_op op_mul (pv 1) pe_int) (pe_op op_pow pe_int pe_int)) (pa_cons pe_int pa_nil)))))) (pe_op op_mod (pe_op op_fdiv (pv 1) pe_int) pe_int) (fun _ _ => rfl))))), ?_⟩
    refine ⟨_, rfl, a, ns, rfl, ha, fun H1 s1 ha1 => ?_⟩
    generalize ns.headD 0 = n
    have e12 : (10 : Int) ^ (12 : Int).toNat = 1000000000000 := by decide
    have e9 : (10 : Int) ^ (9 : Int).toNat = 1000000000 := by decide
    obtain ⟨j, hj, ej⟩ := mod_at (i := n / 12) (n := 5) (by decide)
    refine ⟨_, rfl, _, _, rfl, rfl, (by show (0 : Int) < _; decide), ?_⟩
    refine ⟨_, rfl, _, _, rfl, rfl, (by show (0 : Int) < _; decide), _, _, rfl, rfl, ?_⟩
    refine ⟨_, rfl, _, _, rfl, rfl, (by show (0 : Int) < _; decide), ?_⟩
    first
    | (refine ⟨_, rfl, _, _, rfl, rfl, .inr ⟨by decide, by decide⟩, _, _, rfl, rfl, ⟨by decide, by decide, by decide⟩, _, _, rfl, rfl, (by show (0 : Int) < _; decide), by show 5 ≤ sizeLine; decide, fun e ne => ?_⟩
       obtain ⟨v, hv, hv0, hv1⟩ := menu5 (a := n % 12) (b := 20 + n % 100) (c := n % 12) (d := n * 465 % 10 ^ (12 : Int).toNat) (e := 0) hj (by omega) (by omega) (by omega) (by rw [e12]; omega) (by omega)
       refine ⟨_, rfl, _, _, rfl, rfl, ⟨by decide, by decide⟩, _, _, rfl, rfl, (by show (0 : Int) < _; decide), e, _, _, _, rfl, rfl, SqL.of upd_same, at_of ej hv, ?_⟩
       exact q _ _ v (s1.trans (.of (same_upd ne))) (by rw [upd_ne (ne_of_none ha1 ne)]; exact ha1) hv0 hv1)
    | (refine ⟨_, rfl, _, _, rfl, rfl, ⟨by decide, by decide, by decide⟩, _, _, rfl, rfl, (by show (0 : Int) < _; decide), by show 5 ≤ sizeLine; decide, fun e ne => ?_⟩
       obtain ⟨v, hv, hv0, hv1⟩ := menu5 (a := n % 12) (b := 20 + n % 100) (c := n % 12) (d := n % 10 ^ (9 : Int).toNat) (e := 0) hj (by omega) (by omega) (by omega) (by rw [e9]; omega) (by omega)
       refine ⟨_, rfl, _, _, rfl, rfl, ⟨by decide, by decide⟩, _, _, rfl, rfl, (by show (0 : Int) < _; decide), e, _, _, _, rfl, rfl, SqL.of upd_same, at_of ej hv, ?_⟩
       exact q _ _ v (s1.trans (.of (same_upd ne))) (by rw [upd_ne (ne_of_none ha1 ne)]; exact ha1) hv0 hv1)
    | (refine ⟨_, rfl, _, rfl, _, _, rfl, rfl, ⟨by decide, by decide, by decide⟩, _, _, rfl, rfl, (by show (0 : Int) < _; decide), by show 5 ≤ sizeLine; decide, fun e ne => ?_⟩
       obtain ⟨v, hv, hv0, hv1⟩ := menu5 (a := n % 12) (b := 20 + n % 100) (c := n % 12) (d := n % 10 ^ (9 : Int).toNat) (e := 0) hj (by omega) (by omega) (by omega) (by rw [e9]; omega) (by omega)
       refine ⟨_, rfl, _, _, rfl, rfl, ⟨by decide, by decide⟩, _, _, rfl, rfl, (by show (0 : Int) < _; decide), e, _, _, _, rfl, rfl, SqL.of upd_same, at_of ej hv, ?_⟩
       exact q _ _ v (s1.trans (.of (same_upd ne))) (by rw [upd_ne (ne_of_none ha1 ne)]; exact ha1) hv0 hv1)
end
abbrev s_law_tiers : Stmt := topS 36
abbrev N_law_tiers : List Str := ["_law_draws_here", "_law_tiers_here", "_law_at", "_law_k"]
theorem sc_law_tiers : FnScope N_law_tiers ["_law_draws_here"] (defScope s_law_tiers) := ⟨rfl, rfl, rfl, by decide +kernel, rfl, by decide +kernel, by decide +kernel⟩

section
variable {P : Program} {w : World} {K : PySem.W.Frag} {mg : Str → Option Value} {base : Heap}
theorem ok_tiers {f f1 f2 : Addr} {fd fd1 fd2 : FuncData} {k : Nat} (M : Names mg) (D : Def K mg "_law_tiers" s_law_tiers ["_law_draws_here"] f fd) (D_law_price : Def K mg "_law_price" s_law_price ["_law_draws_here"] f1 fd1) (D_law_pop : Def K mg "_law_pop" s_law_pop ["_law_draws_here"] f2 fd2) :
    FnOk P w K mg base CX0 (k + 3) f fd ["_law_draws_here"] sp_tiers := by
  have G_law_price : FnOk P w K mg base CX0 (k + 2) f1 fd1 ["_law_draws_here"] sp_price := ok_price D_law_price D_law_pop
  have G_law_pop : FnOk P w K mg base CX0 (k + 2) f2 fd2 ["_law_draws_here"] sp_pop := ok_pop D_law_pop
  refine D.F.ok sc_law_tiers (fun vs H Q E h => ?_) (fun cdv A outer s H vs Q E hr h => ?_)
  · obtain ⟨a, ns, rfl, _⟩ := h
    rfl
  · obtain ⟨a, ns, rfl, ha, q⟩ := h
    refine ⟨_, (pss_cons (ps_set (i := 1) sc_law_tiers.nd rfl (Or.inl rfl) (pe_lst pa_nil))
  (pss_cons (ps_set (i := 2) sc_law_tiers.nd rfl (Or.inl rfl) pe_int)
  (pss_cons (ps_for PassesOwn.never rfl (pi_range1 (by rfl) M.range (pa_cons (pe_op op_add pe_int (pe_op op_mod (pe_call G_law_pop hr (by rfl) D_law_pop.g D_law_pop.F.kp D_law_pop.b .nil pass0 (pa_cons (pv 0) pa_nil)) pe_int)) pa_nil)) (pg_name (i := 3) sc_law_tiers.nd rfl (Or.inl rfl))
   (pss_cutI (ps_if (pt_cmpR op_lt (pv 2) pe_int (nomark _))
   (pss_one (ps_expr (pe_bm PySem.F.plainAttrs_list PySem.F.slot_list_append PySem.F.type_list_append mt_append (pv 1) (pa_cons (pe_tup (pa_cons (pv 2) (pa_cons (pe_call G_law_price hr (by rfl) D_law_price.g D_law_price.F.kp D_law_price.b .nil pass0 (pa_cons (pv 0) pa_nil)) pa_nil))) pa_nil))))
   pss_nil)
  (pss_one (ps_set (i := 2) sc_law_tiers.nd rfl (Or.inl rfl) (pe_op op_add (pe_op op_add (pv 2) pe_int) (pe_op op_mod (pe_call G_law_pop hr (by rfl) D_law_pop.g D_law_pop.F.kp D_law_pop.b .nil pass0 (pa_cons (pv 0) pa_nil)) pe_int))))))
  (pss_one (ps_ret (pv 1)))))), ?_⟩
    refine ⟨Nat.zero_le _, fun F nF => ?_⟩
    have naF : F ≠ a := (ne_of_none ha nF).symm
    have ha0 : upd H F (.lst []) a = some (LI ns) := by rw [upd_ne naF.symm]; exact ha
    refine ⟨_, rfl, a, ns, rfl, ha0, fun H1 s1 ha1 => ?_⟩
    have s1' : SameBut a H H1 := (SameBut.of (same_upd nF)).trans s1
    have hF1 : H1 F = some (.lst []) := s1 _ _ naF upd_same
    obtain ⟨m, hm1, hm4, em⟩ := draw4 (ns.headD 0)
    refine ⟨_, _, rfl, rfl, (by show (0 : Int) < _; decide), _, _, rfl, rfl, _, rfl, by omega, by omega, for_range (n := (1 + ns.headD 0 % 4).toNat) (fun i σ H' => ∃ z y3, σ = [some (.ref a), some (.ref F), some (.int z), y3] ∧ SameBut a H H' ∧ (∃ ds, H' a = some (LI ds)) ∧ ∃ ts, TiersAt (cutH a H') F ts ∧ RiseT ts z i) ⟨1, none, rfl, s1', ⟨_, ha1⟩, [], ⟨[], cut_put naF hF1, rfl, fun i u t hu => by simp at hu⟩, ⟨Nat.le_refl _, fun _ => ⟨rfl, rfl⟩, fun t e => by simp at e, fun t ht => by simp at ht, fun i a b ha => by simp at ha, fun t ht => by simp at ht⟩⟩ (fun i σ H2 hi hp => ?_) (fun σ H2 hp => ?_)⟩
    · obtain ⟨z, y3, rfl, s2, ⟨ds, ha2⟩, ts, hts, rs⟩ := hp
      refine ⟨fun σ' H' => ∃ ts', σ' = [some (.ref a), some (.ref F), some (.int z), some (.int (0 + (i : Nat)))] ∧ SameBut a H H' ∧ (∃ ds, H' a = some (LI ds)) ∧ TiersAt (cutH a H') F ts' ∧ ∀ z', z < z' → RiseT ts' z' (i + 1), ?_, fun σ6 H6 hI => ?_⟩
      · refine ⟨_, rfl, _, _, rfl, rfl, _, rfl, ite2 (fun c => ?_) (fun c => ?_)⟩
        · have c' : z < 13 := of_decide_eq_true c
          have hF3 : ∃ xs, H2 F = some (.lst xs) := by
            obtain ⟨us, h1, _⟩ := id hts
            exact ⟨_, (cut_some h1).2⟩
          obtain ⟨xs3, hF3⟩ := hF3
          refine ⟨_, rfl, .inl ⟨rfl, _, SqL.of hF3⟩, _, rfl, _, rfl, a, _, rfl, ha2, fun H4 ns4 p s4 ha4 p0 p1 => ⟨by show 2 ≤ sizeLine; decide, fun u nu => ?_⟩⟩
          have hts4 := hts.same (cut_same s4)
          have nua : u ≠ a := (ne_of_none ha4 nu).symm
          have nuc : cutH a H4 u = none := by rw [cut_at nua]; exact nu
          obtain ⟨xs, hx, hxl, hpu⟩ := hts4.push (t := (z, p)) nuc
          have hF4 := (cut_some hx).2
          have few := rs.few
          refine ⟨F, _, _, rfl, rfl, (by rw [upd_ne (ne_of_none hF4 nu)]; exact hF4), szL' (by omega), ts ++ [(z, p)], rfl, ?_, ⟨ns4, ?_⟩, ?_, fun z' hz => rs.push c' hz p0 p1⟩
          · exact ((s2.trans s4).trans (.of (same_upd nu))).new nF
          · rw [upd_ne naF.symm, upd_ne nua.symm]
            exact ha4
          · rw [cut_upd naF, cut_upd nua]
            exact hpu
        · exact ⟨ts, rfl, s2, ⟨_, ha2⟩, hts, fun z' hz => rs.pass (fun y => c (decide_eq_true y)) hz⟩
      · obtain ⟨ts', rfl, s6, ⟨ds6, ha6⟩, hts6, hr6⟩ := hI
        refine ⟨_, rfl, _, _, rfl, rfl, _, rfl, a, _, rfl, ha6, fun H7 s7 ha7 => ⟨_, _, rfl, rfl, (by show (0 : Int) < _; decide), _, _, rfl, rfl, ?_⟩⟩
        have := Int.emod_nonneg (ds6.headD 0) (show (5 : Int) ≠ 0 by omega)
        exact ⟨_, _, rfl, s6.trans s7, ⟨_, ha7⟩, ts', hts6.same (cut_same s7), hr6 _ (by omega)⟩
    · obtain ⟨z, y3, rfl, s2, ⟨ds, ha2⟩, ts, hts, rs⟩ := hp
      exact ⟨_, rfl, q H2 F ts ds s2 nF hts (rs.good (by omega) (by omega)) rs.pr ha2⟩
end
/-! ### _law_want -/
abbrev s_law_want : Stmt := topS 38
abbrev N_law_want : List Str := ["_law_draws_here", "_law_many", "_law_number", "_law_want_here", "_law_thing"]
theorem sc_law_want : FnScope N_law_want ["_law_draws_here", "_law_many"] (defScope s_law_want) := ⟨rfl, rfl, rfl, by decide +kernel, rfl, by decide +kernel, by decide +kernel⟩

def sp_want : Sp := fun vs H Q _ => ∃ (a : Addr) (ns : List Int) (m : Nat), vs = [.ref a, .int m] ∧ H a = some (LI ns) ∧ 1 ≤ m ∧ m ≤ 4 ∧
  ∀ H' p ws ns', SameBut a H H' → H p = none → p ≠ a → H' p = some (LI ws) → H' a = some (LI ns') → ws.length = m → Small ws → casesM ws ≤ 400 → Q (.ref p) H'
section
variable {P : Program} {w : World} {K : PySem.W.Frag} {mg : Str → Option Value} {base : Heap}
theorem ok_want {f f1 f2 : Addr} {fd fd1 fd2 : FuncData} {k : Nat} (M : Names mg) (D : Def K mg "_law_want" s_law_want ["_law_draws_here", "_law_many"] f fd) (D_law_pop : Def K mg "_law_pop" s_law_pop ["_law_draws_here"] f1 fd1) (D_law_cut : Def K mg "_law_cut" s_law_cut ["_law_row"] f2 fd2) :
    FnOk P w K mg base CX0 (k + 2) f fd ["_law_draws_here", "_law_many"] sp_want := by
  have G_law_pop : FnOk P w K mg base CX0 (k + 1) f1 fd1 ["_law_draws_here"] sp_pop := ok_pop D_law_pop
  have G_law_cut : FnOk P w K mg base CX0 (k + 1) f2 fd2 ["_law_row"] sp_cut := ok_cut M D_law_cut
  refine D.F.ok sc_law_want (fun vs H Q E h => ?_) (fun cdv A outer s H vs Q E hr h => ?_)
  · obtain ⟨a, ns, m, rfl, _⟩ := h
    rfl
  · obtain ⟨a, ns, m, rfl, ha, hm1, hm4, q⟩ := h
    refine ⟨_, (pss_cons (ps_set (i := 2) sc_law_want.nd rfl (Or.inl rfl) (pe_call G_law_pop hr (by rfl) D_law_pop.g D_law_pop.F.kp D_law_pop.b .nil pass0 (pa_cons (pv 0) pa_nil)))
  (pss_cons (ps_set (i := 3) sc_law_want.nd rfl (Or.inl rfl) (pe_lst pa_nil))
  (pss_cons (ps_for PassesOwn.never rfl (pi_range1 (by rfl) M.range (pa_cons (pv 1) pa_nil)) (pg_name (i := 4) sc_law_want.nd rfl (Or.inl rfl))
   (pss_cons (ps_expr (pe_bm PySem.F.plainAttrs_list PySem.F.slot_list_append PySem.F.type_list_append mt_append (pv 3) (pa_cons (pe_op op_mod (pv 2) pe_int) pa_nil)))
  (pss_one (ps_set (i := 2) sc_law_want.nd rfl (Or.inl rfl) (pe_op op_fdiv (pv 2) pe_int)))))
  (pss_one (ps_ret (pe_call G_law_cut hr (by rfl) D_law_cut.g D_law_cut.F.kp D_law_cut.b .nil pass0 (pa_cons (pv 3) pa_nil))))))), ?_⟩
    refine ⟨_, rfl, a, ns, rfl, ha, fun H1 s1 ha1 => ?_⟩
    generalize ns.headD 0 = n0
    generalize ns.tail = ns1 at ha1
    refine ⟨Nat.zero_le _, fun C nC => ?_⟩
    have nCa : C ≠ a := (ne_of_none ha1 nC).symm
    have nCH : H C = none := s1.free nC (by rw [ha1]; exact fun z => nomatch z)
    have s2 : SameBut a H (upd H1 C (.lst [])) := s1.trans (.of (same_upd nC))
    have ha2 : upd H1 C (.lst []) a = some (LI ns1) := (same_upd nC) _ _ ha1
    have hC2 : upd H1 C (.lst []) C = some (LI []) := upd_same
    generalize upd H1 C (.lst []) = H2 at s2 ha2 hC2 ⊢
    refine ⟨_, rfl, _, rfl, by omega, by omega, for_range (n := (m : Int).toNat) (fun i σ H' => ∃ (n : Int) (y5 : Option V) (ws : List Int), σ = [some (.ref a), some (.int m), some (.int n), some (.ref C), y5] ∧ SameBut a H H' ∧ H' a = some (LI ns1) ∧ H' C = some (LI ws) ∧ ws.length = i ∧ Small ws) ⟨n0, none, [], rfl, s2, ha2, hC2, rfl, fun w hw => nomatch hw⟩ (fun i σ H3 hi hp => ?_) (fun σ H3 hp => ?_)⟩
    · obtain ⟨n, y5, ws, rfl, s3, ha3, hC3, hl, sm⟩ := hp
      refine ⟨_, rfl, .inl ⟨rfl, _, SqL.of hC3⟩, _, rfl, _, _, rfl, rfl, (by show (0 : Int) < _; decide), C, _, _, rfl, rfl, hC3, szL' (by rw [List.length_map]; omega), ?_⟩
      refine ⟨_, rfl, _, _, rfl, rfl, ⟨by decide, by decide⟩, _, _, ws ++ [n % 10], rfl, s3.new nCH, ?_, at_app, by rw [List.length_append, hl]; rfl, sm.app (by omega) (by omega)⟩
      rw [upd_ne nCa.symm]
      exact ha3
    · obtain ⟨n, y5, ws, rfl, s3, ha3, hC3, hl, sm⟩ := hp
      rw [Int.toNat_natCast] at hl
      refine ⟨_, rfl, C, ws, rfl, hC3, sm, by omega, by omega, fun H5 ws' s5 hC5 hl5 sm5 c5 _ => ?_⟩
      refine q H5 C ws' ns1 (fun b o n e => ?_) nCH nCa hC5 (s5 _ _ nCa.symm ha3) (by omega) sm5 c5
      have hb := s3 b o n e
      exact s5 b o (fun z => by rw [z, nCH] at e; cases e) hb
end
/-! ### packs of a shop -/
def isPack (os : List Ofr) (i : Nat) : Bool := match os[i]? with
  | some (.pack _ _) => true
  | _ => false
def packsN (os : List Ofr) (n : Nat) : List Int := ((List.range n).filter (isPack os)).map fun (i : Nat) => (i : Int)
theorem packsN_len (os : List Ofr) (n : Nat) : (packsN os n).length ≤ n := by
  unfold packsN
  rw [List.length_map]
  exact Nat.le_trans (List.length_filter_le _ _) (by rw [List.length_range]; exact Nat.le_refl _)
theorem packsN_yes {os : List Ofr} {n : Nat} (h : isPack os n = true) : packsN os (n + 1) = packsN os n ++ [(n : Int)] := by
  unfold packsN
  rw [List.range_succ, List.filter_append, List.map_append]
  simp [h]
theorem packsN_no {os : List Ofr} {n : Nat} (h : isPack os n = false) : packsN os (n + 1) = packsN os n := by
  unfold packsN
  rw [List.range_succ, List.filter_append, List.map_append]
  simp [h]
theorem packsN_mem {os : List Ofr} {n : Nat} {x : Int} (h : x ∈ packsN os n) : ∃ j : Nat, x = (j : Int) ∧ j < n ∧ ∃ c p, os[j]? = some (.pack c p) := by
  obtain ⟨j, hj, rfl⟩ := List.mem_map.mp h
  obtain ⟨h1, h2⟩ := List.mem_filter.mp hj
  refine ⟨j, rfl, List.mem_range.mp h1, ?_⟩
  unfold isPack at h2
  split at h2
  · exact ⟨_, _, by assumption⟩
  · cases h2
/-! ### _law_shop -/
abbrev s_law_shop : Stmt := topS 37
abbrev N_law_shop : List Str := ["_law_draws_here", "_law_many", "_law_most", "_law_shop_here", "_law_k", "_law_number", "_law_packs", "_law_kind", "_law_content_here", "_law_place", "_law_offer"]
theorem sc_law_shop : FnScope N_law_shop ["_law_draws_here", "_law_many", "_law_most"] (defScope s_law_shop) := ⟨rfl, rfl, rfl, by decide +kernel, rfl, by decide +kernel, by decide +kernel⟩

def sp_shop : Sp := fun vs H Q _ => ∃ (a : Addr) (ns : List Int) (m most : Nat), vs = [.ref a, .int m, .int most] ∧ H a = some (LI ns) ∧ 1 ≤ m ∧ m ≤ 4 ∧ most ≤ 8 ∧
  ∀ H' p os ns', SameBut a H H' → H p = none → ShopAt (cutH a H') p os → Good os → FitS m os → os.length ≤ most → H' a = some (LI ns') → Q (.ref p) H'
section
variable {P : Program} {w : World} {K : PySem.W.Frag} {mg : Str → Option Value} {base : Heap}
theorem ok_shop {f f1 f2 f3 f4 f5 : Addr} {fd fd1 fd2 fd3 fd4 fd5 : FuncData} {k : Nat} (M : Names mg) (D : Def K mg "_law_shop" s_law_shop ["_law_draws_here", "_law_many", "_law_most"] f fd) (D_law_content : Def K mg "_law_content" s_law_content ["_law_draws_here", "_law_many", "_law_most"] f1 fd1) (D_law_price : Def K mg "_law_price" s_law_price ["_law_draws_here"] f2 fd2) (D_law_tiers : Def K mg "_law_tiers" s_law_tiers ["_law_draws_here"] f3 fd3)
    (D_law_cut : Def K mg "_law_cut" s_law_cut ["_law_row"] f4 fd4) (D_law_pop : Def K mg "_law_pop" s_law_pop ["_law_draws_here"] f5 fd5) :
    FnOk P w K mg base CX0 (k + 4) f fd ["_law_draws_here", "_law_many", "_law_most"] sp_shop := by
  have G_law_content : FnOk P w K mg base CX0 (k + 3) f1 fd1 ["_law_draws_here", "_law_many", "_law_most"] sp_content := ok_content M D_law_content D_law_pop D_law_cut
  have G_law_price : FnOk P w K mg base CX0 (k + 3) f2 fd2 ["_law_draws_here"] sp_price := ok_price D_law_price D_law_pop
  have G_law_tiers : FnOk P w K mg base CX0 (k + 3) f3 fd3 ["_law_draws_here"] sp_tiers := ok_tiers M D_law_tiers D_law_price D_law_pop
  have G_law_pop : FnOk P w K mg base CX0 (k + 3) f5 fd5 ["_law_draws_here"] sp_pop := ok_pop D_law_pop
  refine D.F.ok sc_law_shop (fun vs H Q E h => ?_) (fun cdv A outer s H vs Q E hr h => ?_)
  · obtain ⟨a, ns, m, most, rfl, _⟩ := h
    rfl
  · obtain ⟨a, ns, m, most, rfl, ha, hm1, hm4, hmost, q⟩ := h
    refine ⟨_, (pss_cons (ps_set (i := 3) sc_law_shop.nd rfl (Or.inl rfl) (pe_lst pa_nil))
  (pss_cons (ps_for PassesOwn.never rfl (pi_range1 (by rfl) M.range (pa_cons (pe_op op_mod (pe_call G_law_pop hr (by rfl) D_law_pop.g D_law_pop.F.kp D_law_pop.b .nil pass0 (pa_cons (pv 0) pa_nil)) (pe_op op_add (pv 2) pe_int)) pa_nil)) (pg_name (i := 4) sc_law_shop.nd rfl (Or.inl rfl))
   (pss_cons (ps_set (i := 5) sc_law_shop.nd rfl (Or.inl rfl) (pe_call G_law_pop hr (by rfl) D_law_pop.g D_law_pop.F.kp D_law_pop.b .nil pass0 (pa_cons (pv 0) pa_nil)))
  (pss_cons (ps_setLc (i := 6) (own := [("_law_place", 9), ("_law_offer", 10)]) (by rfl) sc_law_shop.nd rfl rfl (sw_true rfl rfl rfl (by decide +kernel)) (pi_enum (by rfl) M.enumerate (pa_cons (pv 3) pa_nil)) (blkOk_by (own := [("_law_place", 9), ("_law_offer", 10)]) (N := N_law_shop) (sc := defScope s_law_shop) (by decide +kernel)) (fun _ _ _ _ _ => (pg_tupK (K := K) (n := 2) rfl rfl (pgs_cons (pg_name (i := 9) sc_law_shop.nd rfl (Or.inl rfl)) (pgs_cons (pg_name (i := 10) sc_law_shop.nd rfl (Or.inl rfl)) pgs_nil)))) (fun _ _ _ _ _ => (pts_one (pt_cmpR op_eq (pe_ix (ix_tupK (K := K) rfl) (pv 10) pe_int (fun _ _ => rfl)) pe_str (nomark _)))) (fun _ _ _ _ _ => (pv 9)))
  (pss_cons (ps_set (i := 7) sc_law_shop.nd rfl (Or.inl rfl) (pe_op op_mod (pv 5) pe_int))
  (pss_cons (ps_set (i := 8) sc_law_shop.nd rfl (Or.inl rfl) (pe_call G_law_content hr (by rfl) D_law_content.g D_law_content.F.kp D_law_content.b .nil pass0 (pa_cons (pv 0) (pa_cons (pv 1) (pa_cons pe_int pa_nil)))))
  (pss_one (ps_if (pt_cmpR op_lt (pv 7) pe_int (nomark _))
   (pss_one (ps_expr (pe_bm PySem.F.plainAttrs_list PySem.F.slot_list_append PySem.F.type_list_append mt_append (pv 3) (pa_cons (pe_tup (pa_cons pe_str (pa_cons (pv 8) (pa_cons (pe_call G_law_tiers hr (by rfl) D_law_tiers.g D_law_tiers.F.kp D_law_tiers.b .nil pass0 (pa_cons (pv 0) pa_nil)) pa_nil)))) pa_nil))))
   (pss_one (ps_if (PW.pt (pw_and (pt_cmpR op_lt (pv 7) pe_int (nomark _)) (pw_and1 (pt_cmpR (op_neD hr.units) (pv 6) (pe_lst pa_nil) (nomark _)))))
   (pss_one (ps_expr (pe_bm PySem.F.plainAttrs_list PySem.F.slot_list_append PySem.F.type_list_append mt_append (pv 3) (pa_cons (pe_tup (pa_cons pe_str (pa_cons (pv 8) (pa_cons (pe_call G_law_price hr (by rfl) D_law_price.g D_law_price.F.kp D_law_price.b .nil pass0 (pa_cons (pv 0) pa_nil)) (pa_cons (pe_ix ix_list (pv 6) (pe_op op_mod (pe_op op_fdiv (pv 5) pe_int) (pe_callB call_len_seq (by rfl) M.len (by decide +kernel) (pa_cons (pv 6) pa_nil))) (fun _ _ => rfl)) pa_nil))))) pa_nil))))
   (pss_one (ps_expr (pe_bm PySem.F.plainAttrs_list PySem.F.slot_list_append PySem.F.type_list_append mt_append (pv 3) (pa_cons (pe_tup (pa_cons pe_str (pa_cons (pv 8) (pa_cons (pe_call G_law_price hr (by rfl) D_law_price.g D_law_price.F.kp D_law_price.b .nil pass0 (pa_cons (pv 0) pa_nil)) pa_nil)))) pa_nil)))))))))))))
  (pss_one (ps_ret (pv 3))))), ?_⟩
    refine ⟨Nat.zero_le _, fun S nS => ?_⟩
    have nSa : S ≠ a := (ne_of_none ha nS).symm
    have ha0 : upd H S (.lst []) a = some (LI ns) := by rw [upd_ne nSa.symm]; exact ha
    refine ⟨_, rfl, a, ns, rfl, ha0, fun H1 s1 ha1 => ?_⟩
    have s1' : SameBut a H H1 := (SameBut.of (same_upd nS)).trans s1
    have hS1 : H1 S = some (.lst []) := s1 _ _ nSa upd_same
    obtain ⟨cnt, hcnt, ecnt⟩ := mod_at (i := ns.headD 0) (n := most + 1) (by omega)
    refine ⟨_, rfl, _, _, rfl, rfl, _, _, rfl, rfl, (by show (0 : Int) < (most : Int) + 1; omega), ?_⟩
    refine ⟨(cnt : Int), (by show [V.int (ns.headD 0 % ((most : Int) + 1))] = [V.int (cnt : Int)]; rw [show ns.headD 0 % ((most : Int) + 1) = (cnt : Int) from ecnt]), by omega, by omega, for_range (n := (cnt : Int).toNat) (fun i σ H' => ∃ y4 y5 y6 y7 y8, σ = [some (.ref a), some (.int m), some (.int most), some (.ref S), y4, y5, y6, y7, y8, none, none] ∧ SameBut a H H' ∧ (∃ ds, H' a = some (LI ds)) ∧ ∃ (vs : List Addr) (os : List Ofr), H' S = some (.lst (vs.map V.ref)) ∧ Al (OfrAt (cutH S (cutH a H'))) vs os ∧ Good os ∧ FitS m os ∧ os.length ≤ i) ⟨none, none, none, none, none, rfl, s1', ⟨_, ha1⟩, [], [], hS1, True.intro, ⟨by decide, fun i o ho => by simp at ho⟩, fun o ho => by simp at ho, Nat.le_refl _⟩ (fun i σ H2 hi hp => ?_) (fun σ H2 hp => ?_)⟩
    · obtain ⟨y4, y5, y6, y7, y8, rfl, s2, ⟨ds, ha2⟩, vs, os, hS2, al, gd, ft, hlen⟩ := hp
      have hi2 : i < cnt := by omega
      have lal := al.len
      refine ⟨_, rfl, a, ds, rfl, ha2, fun H3 s3 ha3 => ?_⟩
      generalize ds.headD 0 = n
      have s23 := s2.trans s3
      have hS3 := s3 _ _ nSa hS2
      have al3 : Al (OfrAt (cutH S (cutH a H3))) vs os := al.imp fun v o h => h.same (cut_mono (cut_same s3))
      have sh3 : ShopAt H3 S os := ShopAt.of_al hS3 (al3.imp fun v o h => (h.same cut_le).same cut_le)
      obtain ⟨vs3, k1, k2, k3⟩ := id sh3
      -- packs
      refine ⟨_, rfl, S, _, rfl, SqL.of k1, fun B nB => lc_it (walk_enum (xs := vs3.map V.ref)) (fun j H' => Same H3 H' ∧ H' B = some (LI (packsN os j))) ⟨same_upd nB, upd_same⟩ (fun j H' _ hp => SqL.of (hp.1 _ _ k1)) (fun j x H3' H4 hj hI hy => ?_) (fun H4 hI => ?_)⟩
      · obtain ⟨s4, hB⟩ := hI
        obtain ⟨Tt, x1, x2, rfl, nT, rfl, e1, e2⟩ := hy
        cases Option.some.inj e1
        rw [List.length_map] at hj
        have hj2 : j < os.length := by omega
        obtain ⟨v, o, g1, g2, g3⟩ := ShopAt.get (H := H3) (a := S) k2 hj2
        have e2' : (vs3.map V.ref)[j]? = some x2 := e2
        rw [g3] at e2'
        cases Option.some.inj e2'
        have st := same_upd (o := .tup [.int (j : Nat), .ref v]) nT
        obtain ⟨b, r, hv, _⟩ := ((k3 j v o g1 g2).same (s4.trans st)).head
        have nlen := packsN_len os j
        have hB2 := st _ _ hB
        refine ⟨Tt, _, rfl, SqT.of upd_same, rfl, _, _, rfl, _, _, rfl, rfl, rfl, _, rfl, v, _, _, _, rfl, rfl, SqT.of hv, atI_nat (j := 0) rfl, rfl, ?_⟩
        cases o with
        | pack c pr =>
          have hn : isPack os j = true := by unfold isPack; rw [g2]
          refine ⟨true, rfl, _, rfl, _, hB2, szL' (by rw [List.length_map]; omega), sm_new (s4.trans st) nB, ?_⟩
          rw [packsN_yes hn]
          exact at_app
        | many c ts =>
          have hn : isPack os j = false := by unfold isPack; rw [g2]
          exact ⟨false, rfl, s4.trans st, by rw [packsN_no hn]; exact hB2⟩
        | add c pr kk =>
          have hn : isPack os j = false := by unfold isPack; rw [g2]
          exact ⟨false, rfl, s4.trans st, by rw [packsN_no hn]; exact hB2⟩
      · obtain ⟨s4, hB⟩ := hI
        rw [List.length_map, k2] at hB
        have ha4 := s4 _ _ ha3
        have hS4 := s4 _ _ hS3
        have nBa : B ≠ a := (ne_of_none ha3 nB).symm
        have s24 : SameBut a H H4 := s23.trans (.of s4)
        have al4 : Al (OfrAt (cutH S (cutH a H4))) vs os := al3.imp fun v o h => h.same (cut_mono (cut_mono s4))
        -- kind
        refine ⟨_, rfl, _, _, rfl, rfl, (by show (0 : Int) < _; decide), ?_⟩
        -- content
        refine ⟨_, rfl, _, rfl, a, _, m, 9, rfl, ha4, hm1, hm4, by decide, by decide, fun H5 c ws ns5 s5 nc nca hc ha5 hl sm => ?_⟩
        have s25 := s24.trans s5
        have hS5 := s5 _ _ nSa hS4
        have hB5 := s5 _ _ nBa hB
        have ncS : c ≠ S := fun z => by rw [z, hS4] at nc; cases nc
        have al5 : Al (OfrAt (cutH S (cutH a H5))) vs os := al4.imp fun v o h => h.same (cut_mono (cut_same s5))
        have fin : ∀ (H6 : Hp) (v : Addr) (o : Ofr) (tup : List V) (ns6 : List Int), SameBut a H5 H6 → H6 v = none → H6 a = some (LI ns6) → (OfrAt (cutH S (cutH a (upd H6 v (.tup tup)))) v o) → GoodO os os.length o → FitO m o → upd H6 v (.tup tup) S = some (.lst (vs.map V.ref)) ∧ (vs.map V.ref).length < sizeLine ∧ (∃ y4 y5 y6 y7 y8, [some (V.ref a), some (.int m), some (.int most), some (.ref S), some (.int (0 + (i : Nat))), some (.int n), some (.ref B), some (.int (n % 8)), some (.ref c), none, none] = [some (.ref a), some (.int m), some (.int most), some (.ref S), y4, y5, y6, y7, y8, none, none] ∧ SameBut a H (upd (upd H6 v (.tup tup)) S (.lst (vs.map V.ref ++ [.ref v]))) ∧ (∃ ds, upd (upd H6 v (.tup tup)) S (.lst (vs.map V.ref ++ [.ref v])) a = some (LI ds)) ∧ ∃ (vs' : List Addr) (os' : List Ofr), upd (upd H6 v (.tup tup)) S (.lst (vs.map V.ref ++ [.ref v])) S = some (.lst (vs'.map V.ref)) ∧ Al (OfrAt (cutH S (cutH a (upd (upd H6 v (.tup tup)) S (.lst (vs.map V.ref ++ [.ref v])))))) vs' os' ∧ Good os' ∧ FitS m os' ∧ os'.length ≤ i + 1) := by
          intro H6 v o tup ns6 s6 nv ha6 ho go fo
          have nva : v ≠ a := (ne_of_none ha6 nv).symm
          have hS6 := s6 _ _ nSa hS5
          have hS7 := (same_upd (o := .tup tup) nv) _ _ hS6
          refine ⟨hS7, szL' (by rw [List.length_map]; omega), _, _, _, _, _, rfl, ?_, ⟨ns6, ?_⟩, vs ++ [v], os ++ [o], ?_, ?_, gd.push (by omega) go, ft.push fo, by rw [List.length_append, List.length_singleton]; omega⟩
          · exact ((s25.trans s6).trans (.of (same_upd nv))).new nS
          · rw [upd_ne nSa.symm, upd_ne nva.symm]
            exact ha6
          · rw [upd_same, List.map_append]
            rfl
          · rw [cut_upd nSa, cut_off]
            refine Al.app (al5.imp fun x y h => h.same (cut_mono (cut_same (s6.trans (.of (same_upd nv)))))) (.one ho)
        have finM := fun (H6 H7 : Hp) (v tt : Addr) (ts : List (Int × Int)) (ns7 : List Int) (s6 : SameBut a H5 H6) (s7 : SameBut a H6 H7) (nt : H6 tt = none) (hts : TiersAt (cutH a H7) tt ts) (gts : GoodT ts) (prt : PriceT ts) (ha7 : H7 a = some (LI ns7)) (nv : H7 v = none) => by
          have hS6 := s6 _ _ nSa hS5
          have hS7 := s7 _ _ nSa hS6
          have nva : v ≠ a := (ne_of_none ha7 nv).symm
          have nvS : v ≠ S := (ne_of_none hS7 nv).symm
          have ntS : tt ≠ S := fun z => by rw [z, hS6] at nt; cases nt
          have hc7 := s7 _ _ nca (s6 _ _ nca hc)
          have hts' : TiersAt (cutH S (cutH a (upd H7 v (.tup [.str "many", .ref c, .ref tt])))) tt ts := (hts.cut ntS (cut_put nSa hS7)).same (cut_mono (cut_mono (same_upd nv)))
          exact fin H7 v (.many ws ts) [.str "many", .ref c, .ref tt] ns7 (s6.trans s7) nv ha7 ⟨c, tt, cut_put nvS (cut_put nva upd_same), cut_put ncS (cut_put nca ((same_upd nv) _ _ hc7)), hts'⟩ gts ⟨hl, sm, prt⟩
        have finP := fun (H6 H7 : Hp) (v : Addr) (ns7 : List Int) (p : Int) (s6 : SameBut a H5 H6) (s7 : SameBut a H6 H7) (ha7 : H7 a = some (LI ns7)) (p0 : 0 ≤ p) (p1 : p < 1000000000000) (nv : H7 v = none) => by
          have hS7 := s7 _ _ nSa (s6 _ _ nSa hS5)
          have nva : v ≠ a := (ne_of_none ha7 nv).symm
          have nvS : v ≠ S := (ne_of_none hS7 nv).symm
          have hc7 := s7 _ _ nca (s6 _ _ nca hc)
          exact fin H7 v (.pack ws p) [.str "pack", .ref c, .int p] ns7 (s6.trans s7) nv ha7 ⟨c, cut_put nvS (cut_put nva upd_same), cut_put ncS (cut_put nca ((same_upd nv) _ _ hc7))⟩ True.intro ⟨hl, sm, p0, p1⟩
        refine ⟨_, rfl, _, _, rfl, rfl, _, rfl, ite2 (fun _ => ?_) (fun _ => ?_)⟩
        · refine ⟨_, rfl, .inl ⟨rfl, _, SqL.of hS5⟩, _, rfl, _, rfl, a, _, rfl, ha5, fun H7 tt ts ns7 s7 nt hts gts prt ha7 => ⟨by show 3 ≤ sizeLine; decide, fun v nv => ?_⟩⟩
          exact ⟨S, _, _, rfl, rfl, finM H5 H7 v tt ts ns7 (.refl _ _) s7 nt hts gts prt ha7 nv⟩
        · refine ⟨_, rfl, _, _, rfl, rfl, _, rfl, ite2 (fun _ => ?_) (fun _ => ?_)⟩
          · refine ⟨_, rfl, Nat.zero_le _, fun e ne => ?_⟩
            have se := same_upd (o := .lst []) ne
            have hB6 := se _ _ hB5
            have ha6 := se _ _ ha5
            have hS6 := se _ _ hS5
            have he : upd H5 e (.lst []) e = some (.lst []) := upd_same
            generalize upd H5 e (.lst []) = H6 at se hB6 ha6 hS6 he ⊢
            refine ⟨_, _, dp_ints (SqL.of hB6), dp_ints (ns := []) (SqL.of he), shaped_ints _, shaped_ints _, _, rfl, ite2 (fun z => ?_) (fun z => ?_)⟩
            · have pne : 0 < (packsN os os.length).length := by
                rcases Nat.eq_zero_or_pos (packsN os os.length).length with y | y
                · rw [eqv_ints, List.eq_nil_of_length_eq_zero y, decide_eq_true rfl] at z
                  cases z
                · exact y
              obtain ⟨j, hj, ej⟩ := mod_at (i := n / 8) (n := ((packsN os os.length).map V.int).length) (by rw [List.length_map]; exact pne)
              rw [List.length_map] at hj
              refine ⟨_, rfl, .inl ⟨rfl, _, SqL.of hS6⟩, _, rfl, _, rfl, a, _, rfl, ha6, fun H7 ns7 p s7 ha7 p0 p1 => ?_⟩
              have hB7 := s7 _ _ nBa hB6
              refine ⟨_, rfl, _, rfl, _, _, rfl, rfl, ⟨by decide, by decide⟩, _, rfl, B, _, rfl, .inl (SqL.of hB7), _, _, rfl, rfl, (by rw [List.length_map]; omega), B, _, _, _, rfl, rfl, SqL.of hB7, at_of ej (getD_ints hj), by show 4 ≤ sizeLine; decide, fun v nv => ?_⟩
              obtain ⟨jj, ejj, hjj, cc, pp, hpk⟩ := packsN_mem (List.getElem_mem hj)
              have nva : v ≠ a := (ne_of_none ha7 nv).symm
              have hS7 := s7 _ _ nSa hS6
              have nvS : v ≠ S := (ne_of_none hS7 nv).symm
              have hc7 := s7 _ _ nca (se _ _ hc)
              exact ⟨S, _, _, rfl, rfl, fin H7 v (.add ws p ((packsN os os.length)[j])) _ ns7 ((SameBut.of se).trans s7) nv ha7 ⟨c, cut_put nvS (cut_put nva upd_same), cut_put ncS (cut_put nca ((same_upd nv) _ _ hc7))⟩ ⟨jj, ejj, hjj, cc, pp, hpk⟩ ⟨hl, sm, p0, p1⟩⟩
            · refine ⟨_, rfl, .inl ⟨rfl, _, SqL.of hS6⟩, _, rfl, _, rfl, a, _, rfl, ha6, fun H7 ns7 p s7 ha7 p0 p1 => ⟨by show 3 ≤ sizeLine; decide, fun v nv => ?_⟩⟩
              exact ⟨S, _, _, rfl, rfl, finP H6 H7 v ns7 p (.of se) s7 ha7 p0 p1 nv⟩
          · refine ⟨_, rfl, .inl ⟨rfl, _, SqL.of hS5⟩, _, rfl, _, rfl, a, _, rfl, ha5, fun H7 ns7 p s7 ha7 p0 p1 => ⟨by show 3 ≤ sizeLine; decide, fun v nv => ?_⟩⟩
            exact ⟨S, _, _, rfl, rfl, finP H5 H7 v ns7 p (.refl _ _) s7 ha7 p0 p1 nv⟩
    · obtain ⟨y4, y5, y6, y7, y8, rfl, s2, ⟨ds, ha2⟩, vs, os, hS2, al, gd, ft, hlen⟩ := hp
      refine ⟨_, rfl, q H2 S os ds s2 nS (ShopAt.of_al (cut_put nSa hS2) (al.imp fun v o h => h.same cut_le)) gd ft (by omega) ha2⟩
end
/-! ### how many things -/
theorem menuM {j : Nat} (h : j < 8) : ∃ v : Nat, ([V.int 1, V.int 2, V.int 2, V.int 3, V.int 2, V.int 3, V.int 1, V.int 4] : List V)[j]? = some (.int v) ∧ 1 ≤ v ∧ v ≤ 4 :=
  match j, h with
  | 0, _ => ⟨1, rfl, by decide, by decide⟩
  | 1, _ => ⟨2, rfl, by decide, by decide⟩
  | 2, _ => ⟨2, rfl, by decide, by decide⟩
  | 3, _ => ⟨3, rfl, by decide, by decide⟩
  | 4, _ => ⟨2, rfl, by decide, by decide⟩
  | 5, _ => ⟨3, rfl, by decide, by decide⟩
  | 6, _ => ⟨1, rfl, by decide, by decide⟩
  | 7, _ => ⟨4, rfl, by decide, by decide⟩
theorem LeW.snoc : ∀ {us ws : List Int} {x n : Int}, LeW us ws → 0 ≤ x → x ≤ n → LeW (us ++ [x]) (ws ++ [n])
  | [], [], _, _, _, h0, h1 => ⟨h0, h1, True.intro⟩
  | [], _ :: _, _, _, h, _, _ => h.elim
  | _ :: _, [], _, _, h, _, _ => h.elim
  | a :: r, b :: w, _, _, h, h0, h1 => ⟨h.1, h.2.1, LeW.snoc h.2.2 h0 h1⟩
/-! ### _law_case -/
abbrev s_law_case : Stmt := topS 44
abbrev N_law_case : List Str := ["_law_script", "_law_many_draws", "_law_draws_here", "_law_many", "_law_shop_here"]
theorem sc_law_case : FnScope N_law_case ["_law_script", "_law_many_draws"] (defScope s_law_case) := ⟨rfl, rfl, rfl, by decide +kernel, rfl, by decide +kernel, by decide +kernel⟩

def sp_case (K : PySem.W.Frag) : Sp := fun vs H Q _ => ∃ (a : Addr) (ns : List Int) (md : Nat), vs = [.ref a, .int md] ∧ SqL K H a (ns.map V.int) ∧ ns.length ≤ 1000 ∧ md ≤ 999 ∧
  ∀ H' (t S wa d : Addr) (os : List Ofr) (ws : List Int) (m : Nat) (ds : List Int), SameBut d H H' → H d = none → H S = none → H wa = none → H' t = some (.tup [.int m, .ref S, .ref wa, .ref d]) → t ≠ d → ShopAt (cutH d H') S os → Good os → FitS m os → os.length ≤ 8 → cutH d H' wa = some (LI ws) → ws.length = m → 1 ≤ m → m ≤ 4 → Small ws → casesM ws ≤ 400 → H' d = some (LI ds) → Q (.ref t) H'
section
variable {P : Program} {w : World} {K : PySem.W.Frag} {mg : Str → Option Value} {base : Heap}
theorem ok_case {f f1 f2 f3 f4 : Addr} {fd fd1 fd2 fd3 fd4 : FuncData} {k : Nat} (M : Names mg) (D : Def K mg "_law_case" s_law_case ["_law_script", "_law_many_draws"] f fd) (D_law_draws : Def K mg "_law_draws" s_law_draws ["_law_script", "_law_turn", "_law_many"] f1 fd1) (D_law_pop : Def K mg "_law_pop" s_law_pop ["_law_draws_here"] f2 fd2) (D_law_shop : Def K mg "_law_shop" s_law_shop ["_law_draws_here", "_law_many", "_law_most"] f3 fd3) (D_law_want : Def K mg "_law_want" s_law_want ["_law_draws_here", "_law_many"] f4 fd4)
    (G_law_draws : FnOk P w K mg base CX0 (k + 1) f1 fd1 ["_law_script", "_law_turn", "_law_many"] (sp_draws K)) (G_law_pop : FnOk P w K mg base CX0 (k + 1) f2 fd2 ["_law_draws_here"] sp_pop) (G_law_shop : FnOk P w K mg base CX0 (k + 1) f3 fd3 ["_law_draws_here", "_law_many", "_law_most"] sp_shop) (G_law_want : FnOk P w K mg base CX0 (k + 1) f4 fd4 ["_law_draws_here", "_law_many"] sp_want) :
    FnOk P w K mg base CX0 (k + 2) f fd ["_law_script", "_law_many_draws"] (sp_case K) := by
  refine D.F.ok sc_law_case (fun vs H Q E h => ?_) (fun cdv A outer s H vs Q E hr h => ?_)
  · obtain ⟨a, ns, md, rfl, _⟩ := h
    rfl
  · obtain ⟨a, ns, md, rfl, hS, hl, hmd, q⟩ := h
    refine ⟨_, (pss_cons (ps_set (i := 2) sc_law_case.nd rfl (Or.inl rfl) (pe_call G_law_draws hr (by rfl) D_law_draws.g D_law_draws.F.kp D_law_draws.b .nil pass0 (pa_cons (pv 0) (pa_cons pe_int (pa_cons (pv 1) pa_nil)))))
  (pss_cons (ps_set (i := 3) sc_law_case.nd rfl (Or.inl rfl) (pe_ix ix_list (pe_lst (pa_cons pe_int (pa_cons pe_int (pa_cons pe_int (pa_cons pe_int (pa_cons pe_int (pa_cons pe_int (pa_cons pe_int (pa_cons pe_int pa_nil))))))))) (pe_op op_mod (pe_call G_law_pop hr (by rfl) D_law_pop.g D_law_pop.F.kp D_law_pop.b .nil pass0 (pa_cons (pv 2) pa_nil)) pe_int) (fun _ _ => rfl)))
  (pss_cons (ps_set (i := 4) sc_law_case.nd rfl (Or.inl rfl) (pe_call G_law_shop hr (by rfl) D_law_shop.g D_law_shop.F.kp D_law_shop.b .nil pass0 (pa_cons (pv 2) (pa_cons (pv 3) (pa_cons pe_int pa_nil)))))
  (pss_one (ps_ret (pe_tup (pa_cons (pv 3) (pa_cons (pv 4) (pa_cons (pe_call G_law_want hr (by rfl) D_law_want.g D_law_want.F.kp D_law_want.b .nil pass0 (pa_cons (pv 2) (pa_cons (pv 3) pa_nil))) (pa_cons (pv 2) pa_nil)))))))))), ?_⟩
    refine ⟨_, rfl, _, rfl, a, ns, 1, md, rfl, hS, hl, by omega, by omega, fun H1 d ds s1 nd hd => ?_⟩
    refine ⟨by show 8 ≤ sizeLine; decide, fun e ne => ?_⟩
    have se := same_upd (o := .lst [.int 1, .int 2, .int 2, .int 3, .int 2, .int 3, .int 1, .int 4]) ne
    have he : upd H1 e (.lst [.int 1, .int 2, .int 2, .int 3, .int 2, .int 3, .int 1, .int 4]) e = some (.lst [.int 1, .int 2, .int 2, .int 3, .int 2, .int 3, .int 1, .int 4]) := upd_same
    have hd2 := se _ _ hd
    have ned : e ≠ d := (ne_of_none hd ne).symm
    generalize upd H1 e (.lst [.int 1, .int 2, .int 2, .int 3, .int 2, .int 3, .int 1, .int 4]) = H2 at se he hd2 ⊢
    have s2 := s1.trans se
    refine ⟨_, rfl, d, ds, rfl, hd2, fun H3 s3 hd3 => ?_⟩
    obtain ⟨j, hj, ej⟩ := mod_at (i := ds.headD 0) (n := 8) (by decide)
    obtain ⟨m, hm, hm1, hm4⟩ := menuM hj
    refine ⟨_, _, rfl, rfl, (by show (0 : Int) < _; decide), e, _, _, _, rfl, rfl, SqL.of (s3 _ _ ned he), at_of ej hm, ?_⟩
    refine ⟨_, rfl, _, rfl, d, _, m, 8, rfl, hd3, hm1, hm4, (by decide), fun H4 S os ns4 s4 nS hsh gd ft hl8 hd4 => ?_⟩
    refine ⟨_, rfl, _, rfl, _, rfl, _, rfl, d, _, m, rfl, hd4, hm1, hm4, fun H5 wa ws ns5 s5 nwa nwad hwa hd5 hlw sm c4 => ?_⟩
    refine ⟨_, rfl, by show 4 ≤ sizeLine; decide, fun t nt => ?_⟩
    have st := same_upd (o := .tup [.int m, .ref S, .ref wa, .ref d]) nt
    have s13 : SameBut d H H3 := (SameBut.of s2).trans s3
    have s14 := s13.trans s4
    have hd3n : H3 d ≠ none := by rw [hd3]; exact fun z => nomatch z
    have hd4n : H4 d ≠ none := by rw [hd4]; exact fun z => nomatch z
    refine q _ t S wa d os ws m ns5 ((s14.trans s5).trans (.of st)) nd ?_ ?_ upd_same (ne_of_none hd5 nt).symm ((hsh.same (cut_same s5)).same (cut_mono st)) gd ft hl8 (cut_put nwad (st _ _ hwa)) hlw hm1 hm4 sm c4 (st _ _ hd5)
    · exact s13.free nS hd3n
    · exact s14.free nwa hd4n
end
/-! ### _law_groups -/
abbrev s_law_groups : Stmt := topS 39
abbrev N_law_groups : List Str := ["_law_places", "_law_found", "_law_place", "_law_one"]
theorem sc_law_groups : FnScope N_law_groups ["_law_places"] (defScope s_law_groups) := ⟨rfl, rfl, rfl, by decide +kernel, rfl, by decide +kernel, by decide +kernel⟩

def sp_groups : Sp := fun vs H Q _ => ∃ (a : Addr) (ps : List Int), vs = [.ref a] ∧ H a = some (LI ps) ∧ ps.length ≤ 8 ∧ ∀ H' q (as : List Addr), Same H H' → H q = none → H' q = some (.lst (as.map V.ref)) → Al (RowF H H') as (choicesM ps) → Q (.ref q) H'
section
variable {P : Program} {w : World} {K : PySem.W.Frag} {mg : Str → Option Value} {base : Heap} {T : List Addr}
theorem ok_groups {f : Addr} {fd : FuncData} {k : Nat} (M : Names mg) (D : Def K mg "_law_groups" s_law_groups ["_law_places"] f fd) : FnOk P w K mg base CX0 (k + 1) f fd ["_law_places"] sp_groups := by
  refine D.F.ok sc_law_groups (fun vs H Q E h => ?_) (fun cdv A outer s H vs Q E hr h => ?_)
  · obtain ⟨a, ps, rfl, _⟩ := h
    rfl
  · obtain ⟨a, ps, rfl, ha, h8, q⟩ := h
    refine ⟨_, (pss_cons (ps_set (i := 1) sc_law_groups.nd rfl (Or.inl rfl) (pe_lst (pa_cons (pe_lst pa_nil) pa_nil)))
  (pss_cons (ps_for PassesOwn.never rfl (pi_list (pe_revL (pv 0))) (pg_name (i := 2) sc_law_groups.nd rfl (Or.inr rfl))
   (pss_one (ps_set (i := 1) sc_law_groups.nd rfl (Or.inl rfl) (pe_op op_cat (pe_op op_cat (pe_slice sl_list (pv 1) po_none (po_some pe_int)) (pe_lc (own := [("_law_one", 3)]) (by rfl) sc_law_groups.nd (pi_list (pv 1)) (blkOk_by (own := [("_law_one", 3)]) (N := N_law_groups) (sc := defScope s_law_groups) (by decide +kernel)) (fun _ _ _ _ _ => (pg_name (i := 3) sc_law_groups.nd rfl (Or.inl rfl))) (fun _ _ _ _ _ => pts_nil) (fun _ _ _ _ _ => (pe_op op_cat (pe_lst (pa_cons (pv 2) pa_nil)) (pv 3))))) (pe_slice sl_list (pv 1) (po_some pe_int) po_none)))))
  (pss_one (ps_ret (pv 1))))), ?_⟩
    refine ⟨Nat.zero_le _, fun z nz => ⟨by show 1 ≤ sizeLine; decide, fun t nt => ?_⟩⟩
    have nzt : z ≠ t := ne_of_none upd_same nt
    have s0 : Same H (upd (upd H z (.lst [])) t (.lst [.ref z])) := (same_upd nz).trans (same_upd nt)
    refine ⟨_, rfl, a, _, rfl, SqL.of (s0 _ _ ha), fun R nR => ?_⟩
    have sR := same_upd (o := .lst (ps.map V.int).reverse) nR
    have hR : upd (upd (upd H z (.lst [])) t (.lst [.ref z])) R (.lst (ps.map V.int).reverse) R = some (.lst (ps.reverse.map V.int)) := by rw [upd_same, List.map_reverse]
    have s0R := s0.trans sR
    have ht0 : upd (upd (upd H z (.lst [])) t (.lst [.ref z])) R (.lst (ps.map V.int).reverse) t = some (.lst [.ref z]) := sR _ _ upd_same
    have hz0 : upd (upd (upd H z (.lst [])) t (.lst [.ref z])) R (.lst (ps.map V.int).reverse) z = some (LI []) := sR _ _ ((same_upd nt) _ _ upd_same)
    have nRH : H R = none := s0.free nR
    have ntH : H t = none := (same_upd nz).free nt
    generalize upd (upd (upd H z (.lst [])) t (.lst [.ref z])) R (.lst (ps.map V.int).reverse) = H0 at hR s0R ht0 hz0 ⊢
    clear s0 sR nR nt
    refine ⟨R, rfl, ⟨_, SqL.of hR⟩, for_list (K := K) (a := R) (xs := ps.reverse.map V.int) (fun i σ H' => ∃ t y2 as, σ = [some (.ref a), some (.ref t), y2, none] ∧ Same H H' ∧ Same H0 H' ∧ H t = none ∧ H' t = some (.lst (as.map V.ref)) ∧ Al (RowF H H') as (choicesM (ps.drop (ps.length - i)))) ⟨t, none, [z], rfl, s0R, fun _ _ e => e, ntH, ht0, ?_⟩ (fun i σ H' _ hp => ?_) (fun i x σ H2 hx hp => ?_) (fun σ H1 hp => ?_)⟩
    · rw [Nat.sub_zero, List.drop_length]
      exact .one ⟨hz0, nz⟩
    · obtain ⟨t, y2, as, _, _, s1, _⟩ := hp
      exact SqL.of (s1 _ _ hR)
    · obtain ⟨t1, y2, as, rfl, s1, s01, nt1, ht1, al⟩ := hp
      obtain ⟨n, hn', rfl⟩ := of_get_ints hx
      have hi : i < ps.length := by
        have := (List.getElem?_eq_some_iff.mp hn').1
        rw [List.length_reverse] at this
        exact this
      have hn : ps[ps.length - 1 - i]? = some n := by
        rw [List.getElem?_reverse hi] at hn'
        exact hn'
      have ed : ps.drop (ps.length - (i + 1)) = n :: ps.drop (ps.length - i) := by
        have hlt : ps.length - 1 - i < ps.length := by omega
        rw [show ps.length - (i + 1) = ps.length - 1 - i by omega, List.drop_eq_getElem_cons hlt, show ps.length - 1 - i + 1 = ps.length - i by omega]
        congr 1
        exact (List.getElem?_eq_some_iff.mp hn).2
      generalize hrs : choicesM (ps.drop (ps.length - i)) = rs at al
      have lrs : rs.length ≤ 256 := by
        rw [← hrs]
        exact choicesM_le (by rw [List.length_drop]; omega)
      have lal := al.len
      obtain ⟨z, ar, rfl⟩ : ∃ z ar, as = z :: ar := by
        cases as with
        | nil =>
          have := choices_head (ps.drop (ps.length - i))
          rw [hrs] at this
          rw [this] at lal
          simp at lal
        | cons z ar => exact ⟨z, ar, rfl⟩
      have hz1 : H2 z = some (LI []) ∧ H z = none := by
        have hh := choices_head (ps.drop (ps.length - i))
        rw [hrs] at hh
        rw [hh] at al
        exact al.1
      refine ⟨_, rfl, _, rfl, t1, _, rfl, SqL.of ht1, fun e ne => ?_⟩
      have ecut : cutV ((z :: ar).map V.ref) none (some 1) = [.ref z] := by
        unfold cutV
        have a1 : HT.sIx ((z :: ar).map V.ref).length ((z :: ar).map V.ref).length (some ((1 : Nat) : Int)) = min 1 ((z :: ar).map V.ref).length := HT.sIx_nat _ _ _
        rw [show (1 : Int) = ((1 : Nat) : Int) from rfl, a1, HT.sIx_none, List.drop_zero, Nat.sub_zero, List.length_map, List.length_cons, Nat.min_eq_left (by omega)]
        rfl
      rw [ecut]
      have s2 : Same H2 (upd H2 e (.lst [.ref z])) := same_upd ne
      have hz2 : upd H2 e (.lst [.ref z]) z = some (LI []) := s2 _ _ hz1.1
      have he2 : upd H2 e (.lst [.ref z]) e = some (.lst [.ref z]) := upd_same
      generalize upd H2 e (.lst [.ref z]) = H3 at s2 hz2 he2 ⊢
      generalize has : z :: ar = as at al lal ht1
      refine ⟨_, rfl, t1, rfl, ⟨_, SqL.of (s2 _ _ ht1)⟩, fun C nC => lc_list (xs := as.map V.ref) (fun j H' => Same H3 H' ∧ ∃ cs : List Addr, H' C = some (.lst (cs.map V.ref)) ∧ Al (RowB H H' C) cs ((rs.take j).map (n :: ·))) ⟨same_upd nC, [], upd_same, True.intro⟩ (fun j H' _ hp => SqL.of (hp.1 _ _ (s2 _ _ ht1))) (fun j x H4 hx hp => ?_) (fun H4 hp => ?_)⟩
      · obtain ⟨s4, cs, hC, alc⟩ := hp
        rw [List.getElem?_map] at hx
        cases hu : as[j]? with
        | none => rw [hu] at hx; cases hx
        | some u =>
          rw [hu] at hx
          cases Option.some.inj hx
          obtain ⟨r, hr, hur⟩ := al.get hu
          have lr : r.length ≤ 8 := by
            have : ∀ (ps : List Int) r, r ∈ choicesM ps → r.length ≤ ps.length := by
              intro ps
              induction ps with
              | nil => intro r h; rw [List.mem_singleton.mp h]; exact Nat.le_refl _
              | cons p ps ih =>
                intro r h
                rcases List.mem_append.mp h with h | h
                · rcases List.mem_append.mp h with h | h
                  · rw [List.mem_singleton.mp h]; exact Nat.zero_le _
                  · obtain ⟨r', h', rfl⟩ := List.mem_map.mp h
                    have := ih r' h'
                    rw [List.length_cons, List.length_cons]
                    omega
                · have := ih r (List.mem_of_mem_tail h)
                  rw [List.length_cons]
                  omega
            have := this (ps.drop (ps.length - i)) r (by rw [hrs]; exact List.mem_of_getElem? hr)
            rw [List.length_drop] at this
            omega
          refine ⟨rfl, _, rfl, by show 1 ≤ sizeLine; decide, fun g ng => ?_⟩
          have hu4 : H4 u = some (LI r) := s4 _ _ (s2 _ _ hur.1)
          have ngu : u ≠ g := ne_of_none hu4 ng
          refine ⟨_, rfl, g, u, _, _, rfl, rfl, upd_same, (by rw [upd_ne ngu]; exact hu4), szL (by rw [List.length_map]; show 1 + r.length ≤ _; omega), fun v nv => ?_⟩
          have s5 : Same H4 (upd (upd H4 g (.lst [.int n])) v (.lst ([.int n] ++ r.map V.int))) := (same_upd ng).trans (same_upd nv)
          have lc := alc.len
          rw [List.length_map, List.length_take] at lc
          refine ⟨_, s5 _ _ hC, szL' (by rw [List.length_map]; omega), sm_new (s4.trans s5) nC, cs ++ [v], ?_, ?_⟩
          · rw [upd_same, List.map_append]
            rfl
          · have nvC : v ≠ C := fun z => by
              rw [z] at nv
              rw [(same_upd ng) _ _ hC] at nv
              cases nv
            rw [take_succ_at hr, List.map_append]
            exact Al.app (alc.imp fun a x h => h.keep ((SameBut.of s5).trans .upd)) (.one ⟨by rw [upd_ne nvC, upd_same]; rfl, ((s1.trans s2).trans s4).free ((same_upd ng).free nv), nvC⟩)
      · obtain ⟨s4, cs, hC, alc⟩ := hp
        rw [List.length_map, lal, List.take_length] at alc
        have lc := alc.len
        rw [List.length_map] at lc
        refine ⟨e, C, _, _, rfl, rfl, s4 _ _ he2, hC, szL (by rw [List.length_map]; show 1 + _ ≤ _; omega), fun g ng => ?_⟩
        refine ⟨_, rfl, 1, rfl, t1, _, rfl, SqL.of ((same_upd ng) _ _ (s4 _ _ (s2 _ _ ht1))), fun sl nsl => ?_⟩
        have s5 : Same H4 (upd (upd H4 g (.lst ([.ref z] ++ cs.map V.ref))) sl (.lst (cutV (as.map V.ref) (some 1) none))) := (same_upd ng).trans (same_upd nsl)
        have hg5 : upd (upd H4 g (.lst ([.ref z] ++ cs.map V.ref))) sl (.lst (cutV (as.map V.ref) (some 1) none)) g = some (.lst ([.ref z] ++ cs.map V.ref)) := (same_upd nsl) _ _ upd_same
        refine ⟨g, sl, _, _, rfl, rfl, hg5, upd_same, szL (by rw [cut1, List.length_drop, List.length_map, List.length_append, List.length_map]; show 1 + _ + _ ≤ _; omega), fun t' nt' => ?_⟩
        have s6 := s5.trans (same_upd (o := .lst ([.ref z] ++ cs.map V.ref ++ cutV (as.map V.ref) (some 1) none)) nt')
        have s46 := (s2.trans s4).trans s6
        refine ⟨t', _, ([z] ++ cs) ++ as.drop 1, rfl, s1.trans s46, s01.trans s46, ((s1.trans (s2.trans s4)).trans s5).free nt', ?_, ?_⟩
        · rw [upd_same, cut1, List.map_append, List.map_append, List.map_drop]
          rfl
        · rw [ed]
          show Al _ _ (([[]] ++ (choicesM (ps.drop (ps.length - i))).map (n :: ·)) ++ (choicesM (ps.drop (ps.length - i))).tail)
          rw [hrs]
          exact Al.app (Al.app (.one ⟨s6 _ _ (s4 _ _ hz2), hz1.2⟩) (alc.imp fun a x h => h.toF.keep s6)) ((al.drop1).imp fun a x h => h.keep s46)
    · obtain ⟨t1, y2, as, rfl, s1, s01, nt1, ht1, al⟩ := hp
      rw [List.length_map, List.length_reverse, Nat.sub_self, List.drop_zero] at al
      exact ⟨_, rfl, q H1 t1 as s1 nt1 ht1 al⟩
end
/-! ### _law_sum, _law_lines -/
abbrev s_law_sum : Stmt := topS 40
abbrev N_law_sum : List Str := ["_law_one", "_law_other", "_law_k"]
theorem sc_law_sum : FnScope N_law_sum ["_law_one", "_law_other"] (defScope s_law_sum) := ⟨rfl, rfl, rfl, by decide +kernel, rfl, by decide +kernel, by decide +kernel⟩

abbrev s_law_lines : Stmt := topS 41
abbrev N_law_lines : List Str := ["_law_shop_here", "_law_found", "_law_place", "_law_offer", "_law_own", "_law_adds", "_law_count", "_law_content_here", "_law_price_here", "_law_add", "_law_k", "_law_one", "_law_tier"]
theorem sc_law_lines : FnScope N_law_lines ["_law_shop_here"] (defScope s_law_lines) := ⟨rfl, rfl, rfl, by decide +kernel, rfl, by decide +kernel, by decide +kernel⟩

def sp_sum (K : PySem.W.Frag) : Sp := fun vs H Q _ => ∃ (a b : Addr) (xs ys : List Int), vs = [.ref a, .ref b] ∧ H a = some (LI xs) ∧ H b = some (LI ys) ∧ xs.length = ys.length ∧ xs.length ≤ 1000 ∧ ∀ H' q, Same H H' → H q = none → H' q = some (LI (togM xs ys)) → Q (.ref q) H'
section
variable {P : Program} {w : World} {K : PySem.W.Frag} {mg : Str → Option Value} {base : Heap}
theorem ok_sum {f : Addr} {fd : FuncData} {k : Nat} (M : Names mg) (D : Def K mg "_law_sum" s_law_sum ["_law_one", "_law_other"] f fd) : FnOk P w K mg base CX0 (k + 1) f fd ["_law_one", "_law_other"] (sp_sum K) := by
  refine D.F.ok sc_law_sum (fun vs H Q E h => ?_) (fun cdv A outer s H vs Q E hr h => ?_)
  · obtain ⟨a, b, xs, ys, rfl, _⟩ := h
    rfl
  · obtain ⟨a, b, xs, ys, rfl, ha, hb, hl, h1000, q⟩ := h
    refine ⟨_, (pss_one (ps_ret (pe_lc (own := [("_law_k", 2)]) (by rfl) sc_law_sum.nd (pi_range1 (by rfl) M.range (pa_cons (pe_callB call_len_seq (by rfl) M.len (by decide +kernel) (pa_cons (pv 0) pa_nil)) pa_nil)) (blkOk_by (own := [("_law_k", 2)]) (N := N_law_sum) (sc := defScope s_law_sum) (by decide +kernel)) (fun _ _ _ _ _ => (pg_name (i := 2) sc_law_sum.nd rfl (Or.inl rfl))) (fun _ _ _ _ _ => pts_nil) (fun _ _ _ _ _ => (pe_op op_add (pe_ix (ix_listK (K := K) rfl) (pv 0) (pv 2) (fun _ _ => rfl)) (pe_ix (ix_listK (K := K) rfl) (pv 1) (pv 2) (fun _ _ => rfl))))))), ?_⟩
    refine ⟨_, rfl, a, _, rfl, .inl (SqL.of ha), _, rfl, by rw [List.length_map]; omega, by rw [List.length_map]; omega, fun B nB => lc_range (lo := 0) (n := ((xs.map V.int).length : Int).toNat) (fun i H' => Same H H' ∧ H' B = some (LI ((togM xs ys).take i))) ⟨same_upd nB, upd_same⟩ (fun i H1 hi hp => ?_) (fun H1 hp => ?_)⟩
    · obtain ⟨s1, hB⟩ := hp
      rw [Int.toNat_natCast, List.length_map] at hi
      have gx := List.getElem?_eq_getElem hi
      have gy := List.getElem?_eq_getElem (show i < ys.length by omega)
      refine ⟨rfl, _, rfl, _, rfl, a, _, _, _, rfl, rfl, SqL.of (s1 _ _ ha), at_of (Int.zero_add _) (get_ints gx), _, rfl, _, rfl, b, _, _, _, rfl, rfl, SqL.of (s1 _ _ hb), at_of (Int.zero_add _) (get_ints gy), _, _, rfl, rfl, _, hB, szL' (by rw [List.length_map, List.length_take]; omega), sm_new s1 nB, ?_⟩
      rw [take_succ_at (togM_get gx gy)]
      exact at_app
    · obtain ⟨s1, hB⟩ := hp
      rw [Int.toNat_natCast, List.length_map, List.take_of_length_le (by rw [togM_len]; omega)] at hB
      exact q H1 B s1 nB hB
end
/-- wares, apart from d -/
def WaresAt (d : Addr) (H : Hp) (q : Addr) (xs : List PR) : Prop := q ≠ d ∧ ∃ as : List Addr, H q = some (.lst (as.map V.ref)) ∧ Al (PRowAt (cutH d H)) as xs
def sp_wares : Sp := fun vs H Q _ => ∃ (a d : Addr) (os : List Ofr) (ds : List V) (m : Nat), vs = [.ref a] ∧ H d = some (.lst ds) ∧ ShopAt (cutH d H) a os ∧ Good os ∧ FitS m os ∧ m ≤ 1000 ∧ ∀ H' q, Same H H' → H q = none → WaresAt d H' q (prowsM os) → Q (.ref q) H'
abbrev rowsAt (os : List Ofr) (p : Nat) : List PR := (linesAtM os p).map (prowM os)
theorem prows_flat (os : List Ofr) : prowsM os = (List.range os.length).flatMap (rowsAt os) := by
  unfold prowsM linesM
  rw [List.map_flatMap]
theorem rowsAt_len {os : List Ofr} (h : os.length ≤ 8) (p : Nat) : (rowsAt os p).length ≤ 256 := by
  rw [List.length_map]
  exact linesAtM_len h p
theorem rowsN_len {os : List Ofr} (h : os.length ≤ 8) (n : Nat) : ((List.range n).flatMap (rowsAt os)).length ≤ n * 256 := by
  have := linesN_len h n
  rw [← List.map_flatMap, List.length_map]
  exact this
theorem cut2_off {F d : Addr} {H : Hp} {o : HO} (n : F ≠ d) : cutH F (cutH d (upd H F o)) = cutH F (cutH d H) := by
  rw [cut_upd n, cut_off]
theorem map_one (c : List Int) : c.map ((1 : Int) * ·) = c := by
  induction c with
  | nil => rfl
  | cons a r ih => rw [List.map_cons, ih, Int.one_mul]
section
variable {P : Program} {w : World} {K : PySem.W.Frag} {mg : Str → Option Value} {base : Heap}
theorem ok_wares {f f1 f2 : Addr} {fd fd1 fd2 : FuncData} {k : Nat} (M : Names mg) (D : Def K mg "_law_lines" s_law_lines ["_law_shop_here"] f fd) (D_law_groups : Def K mg "_law_groups" s_law_groups ["_law_places"] f1 fd1) (D_law_sum : Def K mg "_law_sum" s_law_sum ["_law_one", "_law_other"] f2 fd2) : FnOk P w K mg base CX0 (k + 2) f fd ["_law_shop_here"] sp_wares := by
  have G_law_groups : FnOk P w K mg base CX0 (k + 1) f1 fd1 ["_law_places"] sp_groups := ok_groups M D_law_groups
  have G_law_sum : FnOk P w K mg base CX0 (k + 1) f2 fd2 ["_law_one", "_law_other"] (sp_sum K) := ok_sum M D_law_sum
  refine D.F.ok sc_law_lines (fun vs H Q E h => ?_) (fun cdv A outer s H vs Q E hr h => ?_)
  · obtain ⟨a, d, os, ds, m, rfl, _⟩ := h
    rfl
  · obtain ⟨a, d, os, ds, m, rfl, hd, hS, gd, ft, hm, q⟩ := h
    obtain ⟨vs, h1, h2, h3⟩ := id hS
    have h1' := (cut_some h1).2
    have h8 := gd.1
    refine ⟨_, (pss_cons (ps_set (i := 1) sc_law_lines.nd rfl (Or.inl rfl) (pe_lst pa_nil))
  (pss_cons (ps_for PassesOwn.never rfl (pi_enum (by rfl) M.enumerate (pa_cons (pv 0) pa_nil)) (pg_tup rfl (pgs_cons (pg_name (i := 2) sc_law_lines.nd rfl (Or.inr rfl)) (pgs_cons (pg_name (i := 3) sc_law_lines.nd rfl (Or.inl rfl)) pgs_nil)))
   (pss_cutI (ps_if (pt_cmpR op_eq (pe_ix ix_tup (pv 3) pe_int (fun _ _ => rfl)) pe_str (nomark _))
   (pss_cons (ps_setLc (i := 4) (own := [("_law_k", 10), ("_law_one", 11)]) (by rfl) sc_law_lines.nd rfl rfl (sw_true rfl rfl rfl (by decide +kernel)) (pi_enum (by rfl) M.enumerate (pa_cons (pv 0) pa_nil)) (blkOk_by (own := [("_law_k", 10), ("_law_one", 11)]) (N := N_law_lines) (sc := defScope s_law_lines) (by decide +kernel)) (fun _ _ _ _ _ => (pg_tupK (K := K) (n := 2) rfl rfl (pgs_cons (pg_name (i := 10) sc_law_lines.nd rfl (Or.inl rfl)) (pgs_cons (pg_name (i := 11) sc_law_lines.nd rfl (Or.inl rfl)) pgs_nil)))) (fun _ _ _ _ _ => (pts_one (PW.pt (pw_and (pt_cmpR op_eq (pe_ix (ix_tupK (K := K) rfl) (pv 11) pe_int (fun _ _ => rfl)) pe_str (nomark _)) (pw_and1 (pt_cmpR op_eq (pe_ix (ix_tupK (K := K) rfl) (pv 11) pe_int (fun _ _ => rfl)) (pv 2) (nomark _))))))) (fun _ _ _ _ _ => (pv 10)))
  (pss_one (ps_for PassesOwn.never rfl (pi_list (pe_call G_law_groups hr (by rfl) D_law_groups.g D_law_groups.F.kp D_law_groups.b .nil pass0 (pa_cons (pv 4) pa_nil))) (pg_name (i := 5) sc_law_lines.nd rfl (Or.inl rfl))
   (pss_cons (ps_set (i := 7) sc_law_lines.nd rfl (Or.inl rfl) (pe_ix ix_tup (pv 3) pe_int (fun _ _ => rfl)))
  (pss_cons (ps_set (i := 8) sc_law_lines.nd rfl (Or.inl rfl) (pe_ix ix_tup (pv 3) pe_int (fun _ _ => rfl)))
  (pss_cons (ps_for PassesOwn.never rfl (pi_list (pv 5)) (pg_name (i := 9) sc_law_lines.nd rfl (Or.inl rfl))
   (pss_cons (ps_set (i := 7) sc_law_lines.nd rfl (Or.inl rfl) (pe_call G_law_sum hr (by rfl) D_law_sum.g D_law_sum.F.kp D_law_sum.b .nil pass0 (pa_cons (pv 7) (pa_cons (pe_ix ix_tup (pe_ix ix_list (pv 0) (pv 9) (fun _ _ => rfl)) pe_int (fun _ _ => rfl)) pa_nil))))
  (pss_one (ps_set (i := 8) sc_law_lines.nd rfl (Or.inl rfl) (pe_op op_add (pv 8) (pe_ix ix_tup (pe_ix ix_list (pv 0) (pv 9) (fun _ _ => rfl)) pe_int (fun _ _ => rfl)))))))
  (pss_one (ps_expr (pe_bm PySem.F.plainAttrs_list PySem.F.slot_list_append PySem.F.type_list_append mt_append (pv 1) (pa_cons (pe_tup (pa_cons (pe_tup (pa_cons (pv 2) (pa_cons pe_int (pa_cons (pv 5) pa_nil)))) (pa_cons (pv 7) (pa_cons (pv 8) pa_nil)))) pa_nil))))))))))
   pss_nil)
  (pss_one (ps_if (pt_cmpR op_eq (pe_ix ix_tup (pv 3) pe_int (fun _ _ => rfl)) pe_str (nomark _))
   (pss_one (ps_for PassesOwn.never rfl (pi_range2 (by rfl) M.range (pa_cons pe_int (pa_cons pe_int pa_nil))) (pg_name (i := 6) sc_law_lines.nd rfl (Or.inr rfl))
   (pss_cons (ps_set (i := 8) sc_law_lines.nd rfl (Or.inl rfl) (pe_ix ix_list (pe_lc (own := [("_law_tier", 12)]) (by rfl) sc_law_lines.nd (pi_list (pe_ix ix_tup (pv 3) pe_int (fun _ _ => rfl))) (blkOk_by (own := [("_law_tier", 12)]) (N := N_law_lines) (sc := defScope s_law_lines) (by decide +kernel)) (fun _ _ _ _ _ => (pg_name (i := 12) sc_law_lines.nd rfl (Or.inl rfl))) (fun _ _ _ _ _ => (pts_one (pt_cmpR op_le (pe_ix (ix_tupK (K := K) rfl) (pv 12) pe_int (fun _ _ => rfl)) (pv 6) (nomark _)))) (fun _ _ _ _ _ => (pe_ix (ix_tupK (K := K) rfl) (pv 12) pe_int (fun _ _ => rfl)))) (pe_un un_neg pe_int) (fun _ _ => rfl)))
  (pss_one (ps_expr (pe_bm PySem.F.plainAttrs_list PySem.F.slot_list_append PySem.F.type_list_append mt_append (pv 1) (pa_cons (pe_tup (pa_cons (pe_tup (pa_cons (pv 2) (pa_cons (pv 6) (pa_cons (pe_lst pa_nil) pa_nil)))) (pa_cons (pe_lc (own := [("_law_one", 11)]) (by rfl) sc_law_lines.nd (pi_list (pe_ix ix_tup (pv 3) pe_int (fun _ _ => rfl))) (blkOk_by (own := [("_law_one", 11)]) (N := N_law_lines) (sc := defScope s_law_lines) (by decide +kernel)) (fun _ _ _ _ _ => (pg_name (i := 11) sc_law_lines.nd rfl (Or.inl rfl))) (fun _ _ _ _ _ => pts_nil) (fun _ _ _ _ _ => (pe_op op_mul (pv 6) (pv 11)))) (pa_cons (pe_op op_mul (pv 6) (pv 8)) pa_nil)))) pa_nil)))))))
   pss_nil))))
  (pss_one (ps_ret (pv 1))))), ?_⟩
    refine ⟨Nat.zero_le _, fun F nF => ?_⟩
    have nFd : F ≠ d := (ne_of_none hd nF).symm
    refine ⟨_, rfl, a, _, rfl, SqL.of ((same_upd nF) _ _ h1'), for_it (walk_enum (xs := vs.map V.ref)) (fun i σ H' => ∃ y2 y3 y4 y5 y6 y7 y8 y9, σ = [some (.ref a), some (.ref F), y2, y3, y4, y5, y6, y7, y8, y9, none, none, none] ∧ Same H H' ∧ ∃ rs : List Addr, H' F = some (.lst (rs.map V.ref)) ∧ Al (PRowAt (cutH F (cutH d H'))) rs ((List.range i).flatMap (rowsAt os))) ⟨none, none, none, none, none, none, none, none, rfl, same_upd nF, [], upd_same, True.intro⟩ (fun i σ H' _ hp => ?_) (fun i x σ H1 H2 hi hp hy => ?_) (fun σ H1 hp => ?_)⟩
    · obtain ⟨_, _, _, _, _, _, _, _, _, s1, _⟩ := hp
      exact SqL.of (s1 _ _ h1')
    · obtain ⟨y2, y3, y4, y5, y6, y7, y8, y9, rfl, s1, rs, hF1, all⟩ := hp
      obtain ⟨Tt, x1, x2, rfl, nT, rfl, e1, e2⟩ := hy
      cases Option.some.inj e1
      rw [List.length_map] at hi
      have hi2 : i < os.length := by omega
      obtain ⟨v, o, g1, g2, g3⟩ := ShopAt.get (H := H) (a := a) h2 hi2
      have e2' : (vs.map V.ref)[i]? = some x2 := e2
      rw [g3] at e2'
      cases Option.some.inj e2'
      have ho := h3 i v o g1 g2
      have st := same_upd (o := .tup [.int (i : Nat), .ref v]) nT
      have s2 := s1.trans st
      have hF2 := st _ _ hF1
      have all2 : Al (PRowAt (cutH F (cutH d (upd H1 Tt (.tup [.int (i : Nat), .ref v]))))) rs ((List.range i).flatMap (rowsAt os)) := all.imp fun r x h => h.ke (.of (cut_mono (cut_mono st)))
      have hTt : upd H1 Tt (.tup [.int (i : Nat), .ref v]) Tt = some (.tup [.int (i : Nat), .ref v]) := upd_same
      generalize upd H1 Tt (.tup [.int (i : Nat), .ref v]) = H2 at st s2 hF2 all2 hTt ⊢
      have tot := rowsN_len h8 i
      have one := rowsAt_len h8 i
      refine ⟨Tt, _, rfl, SqT.of hTt, rfl, _, _, rfl, _, _, rfl, rfl, ?_⟩
      have fo := ft o (List.mem_of_getElem? g2)
      -- a row more
      have push : ∀ (H3 H4 : Hp) (rs : List Addr) (xs : List PR) (ra : Addr) (x : PR) (u : HO), Al (PRowAt (cutH F (cutH d H3))) rs xs → Same H3 H4 → PRowAt (cutH F (cutH d H4)) ra x → Al (PRowAt (cutH F (cutH d (upd H4 F u)))) (rs ++ [ra]) (xs ++ [x]) := fun H3 H4 rs xs ra x u al s hx => by
        rw [cut2_off nFd]
        exact Al.app (al.imp fun r x h => h.ke (.of (cut_mono (cut_mono s)))) (.one hx)
      have nH : ∀ (H3 : Hp) b, Same H H3 → H3 F ≠ none → H3 b = none → b ≠ F ∧ b ≠ d := fun H3 b s hF hb => ⟨fun z => hF (by rw [← z]; exact hb), fun z => by rw [z, s _ _ hd] at hb; cases hb⟩
      refine ⟨fun σ' H' => ∃ y4 y5 y7 y8 y9, σ' = [some (.ref a), some (.ref F), some (.int (i : Nat)), some (.ref v), y4, y5, y6, y7, y8, y9, none, none, none] ∧ Same H H' ∧ ∃ rs : List Addr, H' F = some (.lst (rs.map V.ref)) ∧ Al (PRowAt (cutH F (cutH d H'))) rs ((List.range i).flatMap (rowsAt os) ++ (match o with | .pack _ _ => rowsAt os i | _ => [])), ?_, fun σ3 H3 hI => ?_⟩
      · cases o with
        | many c ts =>
          obtain ⟨b, t', hb, _⟩ := ho
          refine ⟨_, rfl, v, _, _, _, rfl, rfl, SqT.of (s2 _ _ (cut_some hb).2), atI_nat (j := 0) rfl, rfl, false, rfl, ?_⟩
          exact ⟨_, _, _, _, _, rfl, s2, rs, hF2, by rw [List.append_nil]; exact all2⟩
        | add c pr kk =>
          obtain ⟨b, hb, _⟩ := ho
          refine ⟨_, rfl, v, _, _, _, rfl, rfl, SqT.of (s2 _ _ (cut_some hb).2), atI_nat (j := 0) rfl, rfl, false, rfl, ?_⟩
          exact ⟨_, _, _, _, _, rfl, s2, rs, hF2, by rw [List.append_nil]; exact all2⟩
        | pack c pr =>
          obtain ⟨b, hv, hb⟩ := ho
          obtain ⟨nbd, hb'⟩ := cut_some hb
          have hv' := (cut_some hv).2
          have nbF : b ≠ F := ne_of_none hb' nF
          have em : rowsAt os i = (choicesM (addsM os i)).map fun c => prowM os ⟨i, 1, c⟩ := by
            unfold rowsAt linesAtM
            rw [g2, List.map_map]
            rfl
          refine ⟨_, rfl, v, _, _, _, rfl, rfl, SqT.of (s2 _ _ hv'), atI_nat (j := 0) rfl, rfl, true, rfl, ?_⟩
          -- own
          refine ⟨_, rfl, a, _, rfl, SqL.of (s2 _ _ h1'), fun B nB => lc_it (walk_enum (xs := vs.map V.ref)) (fun j H' => Same H2 H' ∧ H' B = some (LI (addsN os i j))) ⟨same_upd nB, upd_same⟩ (fun j H' _ hp => SqL.of (hp.1 _ _ (s2 _ _ h1'))) (fun j x H3 H4 hj hp hy => ?_) (fun H3 hp => ?_)⟩
          · obtain ⟨s3, hB⟩ := hp
            obtain ⟨T2, x1, x2, rfl, nT2, rfl, e1, e2⟩ := hy
            cases Option.some.inj e1
            rw [List.length_map] at hj
            obtain ⟨u, ou, k1, k2, k3⟩ := ShopAt.get (H := H) (a := a) h2 (show j < os.length by omega)
            have e2' : (vs.map V.ref)[j]? = some x2 := e2
            rw [k3] at e2'
            cases Option.some.inj e2'
            have sT := same_upd (o := .tup [.int (j : Nat), .ref u]) nT2
            have hB2 := sT _ _ hB
            have hou := ((h3 j u ou k1 k2).same cut_le).same (s2.trans (s3.trans sT))
            have nlen := addsN_len os i j
            cases ou with
            | pack c pr =>
              obtain ⟨b, hb, _⟩ := hou
              have hn : isAdd os i j = false := by unfold isAdd; rw [k2]
              refine ⟨T2, _, rfl, SqT.of upd_same, rfl, _, _, rfl, _, _, rfl, rfl, rfl, _, rfl, u, _, _, _, rfl, rfl, SqT.of hb, atI_nat (j := 0) rfl, rfl, false, rfl, ?_⟩
              exact ⟨s3.trans sT, by rw [addsN_no hn]; exact hB2⟩
            | many c ts =>
              obtain ⟨b, t', hb, _⟩ := hou
              have hn : isAdd os i j = false := by unfold isAdd; rw [k2]
              refine ⟨T2, _, rfl, SqT.of upd_same, rfl, _, _, rfl, _, _, rfl, rfl, rfl, _, rfl, u, _, _, _, rfl, rfl, SqT.of hb, atI_nat (j := 0) rfl, rfl, false, rfl, ?_⟩
              exact ⟨s3.trans sT, by rw [addsN_no hn]; exact hB2⟩
            | add c pr kk =>
              obtain ⟨b, hb, _⟩ := hou
              refine ⟨T2, _, rfl, SqT.of upd_same, rfl, _, _, rfl, _, _, rfl, rfl, rfl, _, rfl, u, _, _, _, rfl, rfl, SqT.of hb, atI_nat (j := 0) rfl, rfl, true, rfl, ?_⟩
              refine ⟨_, rfl, u, _, _, _, rfl, rfl, SqT.of hb, atI_nat (j := 3) rfl, _, rfl, rfl, _, rfl, ite2 (fun c => ?_) (fun c => ?_)⟩
              · have ek : kk = (i : Int) := V.int.inj (of_decide_eq_true c)
                have hn : isAdd os i j = true := by unfold isAdd; rw [k2]; exact decide_eq_true ek
                refine ⟨_, rfl, _, hB2, szL' (by rw [List.length_map]; omega), sm_new (s3.trans sT) nB, ?_⟩
                rw [addsN_yes hn]
                exact at_app
              · have hn : isAdd os i j = false := by unfold isAdd; rw [k2]; exact decide_eq_false fun z => c (decide_eq_true (by rw [z]))
                exact ⟨s3.trans sT, by rw [addsN_no hn]; exact hB2⟩
          · obtain ⟨s3, hB⟩ := hp
            rw [List.length_map, h2] at hB
            have la : (addsM os i).length ≤ 8 := Nat.le_trans (addsN_len _ _ _) h8
            -- groups
            refine ⟨_, rfl, B, addsM os i, rfl, hB, la, fun H4 G gs s4 nG hG alG => ?_⟩
            have s24 := s3.trans s4
            have lg := alG.len
            have lch := choicesM_le la
            have nGF : G ≠ F := fun z => by rw [z, s3 _ _ hF2] at nG; cases nG
            have hF4 := s24 _ _ hF2
            have all4 : Al (PRowAt (cutH F (cutH d H4))) rs ((List.range i).flatMap (rowsAt os)) := all2.imp fun r x h => h.ke (.of (cut_mono (cut_mono s24)))
            have s04 := s2.trans s24
            refine ⟨G, rfl, ⟨_, SqL.of hG⟩, for_list (K := K) (a := G) (xs := gs.map V.ref) (fun j σ H' => ∃ y5 y7 y8 y9, σ = [some (.ref a), some (.ref F), some (.int (i : Nat)), some (.ref v), some (.ref B), y5, y6, y7, y8, y9, none, none, none] ∧ Same H H' ∧ SameBut F H4 H' ∧ ∃ rs : List Addr, H' F = some (.lst (rs.map V.ref)) ∧ Al (PRowAt (cutH F (cutH d H'))) rs ((List.range i).flatMap (rowsAt os) ++ ((choicesM (addsM os i)).take j).map fun c => prowM os ⟨i, 1, c⟩)) ⟨_, _, _, _, rfl, s04, .refl _ _, rs, hF4, by rw [List.take_zero, List.map_nil, List.append_nil]; exact all4⟩ (fun j σ H' _ hp => ?_) (fun j x σ H5 hx hp => ?_) (fun σ H5 hp => ?_)⟩
            · obtain ⟨_, _, _, _, _, _, sb, _⟩ := hp
              exact SqL.of (sb _ _ nGF hG)
            · obtain ⟨y5, y7, y8, y9, rfl, s5, sb5, rs5, hF5, all5⟩ := hp
              rw [List.getElem?_map] at hx
              cases hu : gs[j]? with
              | none => rw [hu] at hx; cases hx
              | some g =>
                rw [hu] at hx
                cases Option.some.inj hx
                obtain ⟨ch, hch, hg4, ng3⟩ := alG.get hu
                have ngF : g ≠ F := fun z => by rw [z, s3 _ _ hF2] at ng3; cases ng3
                have ngd : g ≠ d := fun z => by rw [z, s3 _ _ (s2 _ _ hd)] at ng3; cases ng3
                have hg5 := sb5 _ _ ngF hg4
                have chm := List.mem_of_getElem? hch
                obtain ⟨lch1, hsub⟩ := choices_mem chm
                have lr5 := all5.len
                rw [List.length_append, List.length_map, List.length_take] at lr5
                have lk : LineOk os ⟨i, 1, ch⟩ := linesAt_ok gd (p := i) (by unfold linesAtM; rw [g2]; exact List.mem_map.mpr ⟨ch, chm, rfl⟩)
                refine ⟨_, rfl, v, _, _, _, rfl, rfl, SqT.of (s5 _ _ hv'), atI_nat (j := 1) rfl, ?_⟩
                refine ⟨_, rfl, v, _, _, _, rfl, rfl, SqT.of (s5 _ _ hv'), atI_nat (j := 2) rfl, ?_⟩
                refine ⟨_, rfl, g, rfl, ⟨_, SqL.of hg5⟩, for_list (K := K) (a := g) (xs := ch.map V.int) (fun t σ H' => ∃ (cc : Addr) (cs : List Int) (y9 : Option V), σ = [some (.ref a), some (.ref F), some (.int (i : Nat)), some (.ref v), some (.ref B), some (.ref g), y6, some (.ref cc), some (.int (pr + ((ch.take t).map (addPr os)).sum)), y9, none, none, none] ∧ Same H5 H' ∧ H' cc = some (LI cs) ∧ cc ≠ F ∧ cc ≠ d ∧ cs.length = m ∧ cs = (ch.take t).foldl (fun acc x => togM acc (contAt os x)) c) ⟨b, c, y9, by rw [List.take_zero]; show _ = [_, _, _, _, _, _, _, _, some (V.int (pr + 0)), _, _, _, _]; rw [Int.add_zero]; rfl, fun _ _ e => e, s5 _ _ hb', nbF, nbd, fo.1, rfl⟩ (fun t σ H' _ hp => ?_) (fun t x σ H6 hx hp => ?_) (fun σ H6 hp => ?_)⟩
                · obtain ⟨_, _, _, _, s6, _⟩ := hp
                  exact SqL.of (s6 _ _ hg5)
                · obtain ⟨cc, cs, y9, rfl, s6, hcc, ncF, ncd, lcs, ecs⟩ := hp
                  obtain ⟨n, hn, rfl⟩ := of_get_ints hx
                  obtain ⟨jj, rfl, hjl, c', p', hadd⟩ := adds_mem (hsub n (List.mem_of_getElem? hn))
                  obtain ⟨u, ou, k1, k2, k3⟩ := ShopAt.get (H := H) (a := a) h2 hjl
                  cases Option.some.inj (k2.symm.trans hadd)
                  obtain ⟨bu, hu1, hu2⟩ := ((h3 jj u _ k1 k2).same cut_le).same (s5.trans s6)
                  have fu := ft _ (List.mem_of_getElem? hadd)
                  have ha6 := (s5.trans s6) _ _ h1'
                  refine ⟨_, rfl, _, rfl, _, rfl, a, _, _, _, rfl, rfl, SqL.of ha6, atI_nat k3, u, _, _, _, rfl, rfl, SqT.of hu1, atI_nat (j := 1) rfl, cc, bu, cs, c', rfl, hcc, hu2, by rw [lcs, fu.1], by omega, fun H7 q7 s7 nq7 hq7 => ?_⟩
                  have hu17 := s7 _ _ hu1
                  have ha7 := s7 _ _ ha6
                  have hF7 : H6 F ≠ none := by rw [s6 _ _ hF5]; exact fun z => nomatch z
                  obtain ⟨n1, n2⟩ := nH H6 q7 (s5.trans s6) hF7 nq7
                  refine ⟨_, rfl, _, rfl, _, rfl, a, _, _, _, rfl, rfl, SqL.of ha7, atI_nat k3, u, _, _, _, rfl, rfl, SqT.of hu17, atI_nat (j := 2) rfl, _, _, rfl, rfl, ?_⟩
                  refine ⟨q7, togM cs c', some (.int ((jj : Nat) : Int)), ?_, s6.trans s7, hq7, n1, n2, by rw [togM_len, lcs, fu.1]; exact Nat.min_self m, ?_⟩
                  · rw [take_succ_at hn, List.map_append, List.sum_append]
                    have ea : addPr os ((jj : Nat) : Int) = p' := by unfold addPr; rw [Int.toNat_natCast, hadd]
                    show _ = [_, _, _, _, _, _, _, _, some (V.int (pr + (((ch.take t).map (addPr os)).sum + (addPr os ((jj : Nat) : Int) + 0)))), _, _, _, _]
                    rw [ea, Int.add_zero, ← Int.add_assoc]
                    rfl
                  · rw [take_succ_at hn, List.foldl_append, ← ecs]
                    show togM cs c' = togM cs (contAt os ((jj : Nat) : Int))
                    rw [contAt_get hadd]
                    rfl
                · obtain ⟨cc, cs, y9, rfl, s6, hcc, ncF, ncd, lcs, ecs⟩ := hp
                  rw [List.length_map, List.take_length] at ecs
                  rw [List.length_map, List.take_length]
                  have hF6 := s6 _ _ hF5
                  have s06 := s5.trans s6
                  have hF6n : H6 F ≠ none := by rw [hF6]; exact fun z => nomatch z
                  refine ⟨_, rfl, .inl ⟨rfl, _, SqL.of hF6⟩, _, rfl, _, rfl, by show 3 ≤ sizeLine; decide, fun lt nlt => ⟨_, rfl, _, rfl, by show 3 ≤ sizeLine; decide, fun rt nrt => ?_⟩⟩
                  have sl := same_upd (o := .tup [.int (i : Nat), .int 1, .ref g]) nlt
                  have sr := same_upd (o := .tup [.ref lt, .ref cc, .int (pr + (ch.map (addPr os)).sum)]) nrt
                  obtain ⟨nl1, nl2⟩ := nH H6 lt s06 hF6n nlt
                  obtain ⟨nr1, nr2⟩ := nH _ rt (s06.trans sl) (by rw [sl _ _ hF6]; exact fun z => nomatch z) nrt
                  have hF8 := sr _ _ (sl _ _ hF6)
                  refine ⟨F, _, _, rfl, rfl, hF8, szL' (by rw [List.length_map]; omega), _, _, _, _, rfl, sm_new (s06.trans (sl.trans sr)) nF, ((sb5.trans (.of s6)).trans (.of (sl.trans sr))).trans .upd, rs5 ++ [rt], ?_, ?_⟩
                  · rw [upd_same, List.map_append]
                    rfl
                  · rw [take_succ_at hch, List.map_append, ← List.append_assoc]
                    have ep : priceM os ⟨i, 1, ch⟩ = pr + (ch.map (addPr os)).sum := by unfold priceM; rw [show ((⟨i, 1, ch⟩ : Ln).p).toNat = i from Int.toNat_natCast i, g2]
                    have ec : contM os ⟨i, 1, ch⟩ = cs := by
                      unfold contM
                      rw [show contAt os ((i : Nat) : Int) = c from contAt_get g2]
                      show ch.foldl _ (c.map (1 * ·)) = cs
                      rw [map_one, ecs]
                    refine push H5 _ rs5 _ rt _ _ all5 (s6.trans (sl.trans sr)) ⟨lt, cc, cut_put nr1 (cut_put nr2 ?_), ⟨g, cut_put nl1 (cut_put nl2 (sr _ _ upd_same)), cut_put ngF (cut_put ngd ((s6.trans (sl.trans sr)) _ _ hg5))⟩, ?_⟩
                    · show upd _ rt _ rt = some (.tup [.ref lt, .ref cc, .int (priceM os ⟨i, 1, ch⟩)])
                      rw [upd_same, ep]
                    · show cutH F (cutH d _) cc = some (LI (contM os ⟨i, 1, ch⟩))
                      rw [ec]
                      exact cut_put ncF (cut_put ncd ((sl.trans sr) _ _ hcc))
            · obtain ⟨y5, y7, y8, y9, rfl, s5, sb5, rs5, hF5, all5⟩ := hp
              rw [List.length_map, lg, List.take_length, ← em] at all5
              exact ⟨_, _, _, _, _, rfl, s5, rs5, hF5, all5⟩
      · obtain ⟨y4, y5, y7, y8, y9, rfl, s3, rs3, hF3, all3⟩ := hI
        have hend : ∀ {z : List PR}, rowsAt os i = z → (List.range (i + 1)).flatMap (rowsAt os) = (List.range i).flatMap (rowsAt os) ++ z := fun {z} e => by
          rw [List.range_succ, List.flatMap_append, List.flatMap_singleton, e]
        cases o with
        | pack c pr =>
          obtain ⟨b, hv, _⟩ := ho
          refine ⟨_, rfl, v, _, _, _, rfl, rfl, SqT.of (s3 _ _ (cut_some hv).2), atI_nat (j := 0) rfl, rfl, false, rfl, ?_⟩
          exact ⟨_, _, _, _, _, _, _, _, rfl, s3, rs3, hF3, by rw [hend rfl]; exact all3⟩
        | add c pr kk =>
          obtain ⟨b, hv, _⟩ := ho
          refine ⟨_, rfl, v, _, _, _, rfl, rfl, SqT.of (s3 _ _ (cut_some hv).2), atI_nat (j := 0) rfl, rfl, false, rfl, ?_⟩
          refine ⟨_, _, _, _, _, _, _, _, rfl, s3, rs3, hF3, ?_⟩
          rw [hend (z := []) (by unfold rowsAt linesAtM; rw [g2]; rfl)]
          exact all3
        | many c ts =>
          obtain ⟨b, t', hv, hb, us, u1, u2, u3⟩ := ho
          obtain ⟨nbd, hb'⟩ := cut_some hb
          have hv' := (cut_some hv).2
          have u1' := (cut_some u1).2
          have gts : GoodT ts := gd.2 i _ g2
          have few := gts.few
          have prt : PriceT ts := fo.2.2
          rw [List.append_nil] at all3
          have em : rowsAt os i = (List.range 12).map fun k => prowM os ⟨i, 1 + (k : Nat), []⟩ := by
            unfold rowsAt linesAtM
            rw [g2, List.map_map]
            rfl
          refine ⟨_, rfl, v, _, _, _, rfl, rfl, SqT.of (s3 _ _ hv'), atI_nat (j := 0) rfl, rfl, true, rfl, ?_⟩
          refine ⟨1, 13, rfl, ⟨by decide, by decide, by decide, by decide⟩, for_range (lo := 1) (n := 12) (fun j σ H' => ∃ y5 y6 y7 y8 y9, σ = [some (.ref a), some (.ref F), some (.int (i : Nat)), some (.ref v), y4, y5, y6, y7, y8, y9, none, none, none] ∧ Same H H' ∧ ∃ rs : List Addr, H' F = some (.lst (rs.map V.ref)) ∧ Al (PRowAt (cutH F (cutH d H'))) rs ((List.range i).flatMap (rowsAt os) ++ (List.range j).map fun k => prowM os ⟨i, 1 + (k : Nat), []⟩)) ⟨_, _, _, _, _, rfl, s3, rs3, hF3, by rw [show ((List.range 0).map fun k => prowM os ⟨i, 1 + (k : Nat), []⟩) = [] from rfl, List.append_nil]; exact all3⟩ (fun j σ H4 hj hp => ?_) (fun σ H4 hp => ?_)⟩
          · obtain ⟨y5, y6, y7, y8, y9, rfl, s4, rs4, hF4, all4⟩ := hp
            have lr4 := all4.len
            rw [List.length_append, List.length_map, List.length_range] at lr4
            -- price
            refine ⟨_, rfl, v, _, _, _, rfl, rfl, SqT.of (s4 _ _ hv'), atI_nat (j := 2) rfl, t', rfl, ⟨_, SqL.of (s4 _ _ u1')⟩, fun B nB => lc_list (K := K) (xs := us.map V.ref) (fun l H' => Same H4 H' ∧ H' B = some (LI (pieceL (ts.take l) (1 + (j : Int)))) ∧ (pieceL (ts.take l) (1 + (j : Int))).length ≤ l) ⟨same_upd nB, upd_same, Nat.le_refl _⟩ (fun l H' _ hp => SqL.of (hp.1 _ _ (s4 _ _ u1'))) (fun l x H5 hx hp => ?_) (fun H5 hp => ?_)⟩
            · obtain ⟨s5, hB, hlen⟩ := hp
              rw [List.getElem?_map] at hx
              cases hu : us[l]? with
              | none => rw [hu] at hx; cases hx
              | some u =>
                rw [hu] at hx
                cases Option.some.inj hx
                have hl : l < ts.length := by
                  have := (List.getElem?_eq_some_iff.mp hu).1
                  omega
                have gt := List.getElem?_eq_getElem hl
                have hut := s5 _ _ (s4 _ _ (cut_some (u3 l u _ hu gt)).2)
                refine ⟨rfl, _, rfl, u, _, _, _, rfl, rfl, SqT.of hut, atI_nat (j := 0) rfl, _, rfl, _, _, rfl, rfl, _, rfl, ite2 (fun z => ?_) (fun z => ?_)⟩
                · have z2 := of_decide_eq_true z
                  refine ⟨_, rfl, u, _, _, _, rfl, rfl, SqT.of hut, atI_nat (j := 1) rfl, _, hB, szL' (by rw [List.length_map]; omega), sm_new s5 nB, ?_, ?_⟩
                  · rw [pieceL_take gt, if_pos z2]
                    exact at_app
                  · rw [pieceL_take gt, if_pos z2, List.length_append, List.length_singleton]
                    omega
                · have z2 : ¬ (ts[l]).1 ≤ 1 + (j : Int) := fun y => z (decide_eq_true y)
                  refine ⟨s5, ?_, ?_⟩
                  · rw [pieceL_take gt, if_neg z2]
                    exact hB
                  · rw [pieceL_take gt, if_neg z2]
                    omega
            · obtain ⟨s5, hB, hlen⟩ := hp
              rw [List.length_map, u2, List.take_length] at hB hlen
              have ne : pieceL ts (1 + (j : Int)) ≠ [] := by
                have pos := gts.pos
                have g0 := List.getElem?_eq_getElem (show 0 < ts.length by omega)
                have e1 := gts.one _ g0
                have hm : (ts[0]'(by omega)) ∈ ts.filter fun t => decide (t.1 ≤ 1 + (j : Int)) := List.mem_filter.mpr ⟨List.getElem_mem _, decide_eq_true (by omega)⟩
                intro z
                unfold pieceL at z
                rw [List.map_eq_nil_iff] at z
                rw [z] at hm
                cases hm
              have hpos : 0 < (pieceL ts (1 + (j : Int))).length := List.length_pos_iff.mpr ne
              have glast : (pieceL ts (1 + (j : Int)))[(pieceL ts (1 + (j : Int))).length - 1]? = some (pieceM ts (1 + (j : Int))) := by
                unfold pieceM
                rw [List.getLastD_eq_getLast?, List.getLast?_eq_getElem?]
                rw [List.getElem?_eq_getElem (by omega)]
                rfl
              have pbnd : 0 ≤ pieceM ts (1 + (j : Int)) ∧ pieceM ts (1 + (j : Int)) < 1000000000000 := by
                obtain ⟨t, ht, e⟩ := List.mem_map.mp (List.mem_of_getElem? glast)
                rw [← e]
                exact prt t (List.mem_filter.mp ht).1
              have hneg : atI ((pieceL ts (1 + (j : Int))).map V.int) (-1) = some (.int (pieceM ts (1 + (j : Int)))) := by
                have e : pieceL ts (1 + (j : Int)) = (pieceL ts (1 + (j : Int))).dropLast ++ [pieceM ts (1 + (j : Int))] := by
                  unfold pieceM
                  rw [List.getLastD_eq_getLast?, List.getLast?_eq_getLast ne]
                  exact (List.dropLast_concat_getLast ne).symm
                rw [e, List.map_append]
                exact atI_last _ _
              refine ⟨1, rfl, B, _, -1, _, rfl, rfl, SqL.of hB, hneg, ?_⟩
              have s05 := s4.trans s5
              have hF5 := s5 _ _ hF4
              have hF5n : H5 F ≠ none := by rw [hF5]; exact fun z => nomatch z
              -- append
              refine ⟨_, rfl, .inl ⟨rfl, _, SqL.of hF5⟩, _, rfl, _, rfl, Nat.zero_le _, fun el nel => ⟨by show 3 ≤ sizeLine; decide, fun lt nlt => ?_⟩⟩
              have se := same_upd (o := .lst []) nel
              have sl := same_upd (o := .tup [.int (i : Nat), .int (1 + (j : Int)), .ref el]) nlt
              obtain ⟨ne1, ne2⟩ := nH H5 el s05 hF5n nel
              obtain ⟨nl1, nl2⟩ := nH _ lt (s05.trans se) (by rw [se _ _ hF5]; exact fun z => nomatch z) nlt
              have s07 := s05.trans (se.trans sl)
              have hF7 := (se.trans sl) _ _ hF5
              have hel : upd (upd H5 el (.lst [])) lt (.tup [.int (i : Nat), .int (1 + (j : Int)), .ref el]) el = some (LI []) := sl _ _ upd_same
              have hlt : upd (upd H5 el (.lst [])) lt (.tup [.int (i : Nat), .int (1 + (j : Int)), .ref el]) lt = some (.tup [.int (i : Nat), .int (1 + (j : Int)), .ref el]) := upd_same
              have s57 := se.trans sl
              generalize upd (upd H5 el (.lst [])) lt (.tup [.int (i : Nat), .int (1 + (j : Int)), .ref el]) = H7 at s07 hF7 hel hlt s57 ⊢
              refine ⟨_, rfl, v, _, _, _, rfl, rfl, SqT.of (s07 _ _ hv'), atI_nat (j := 1) rfl, b, rfl, ⟨_, SqL.of (s07 _ _ hb')⟩, fun C nC => lc_list (K := K) (xs := c.map V.int) (fun l H' => Same H7 H' ∧ H' C = some (LI ((c.take l).map ((1 + (j : Int)) * ·)))) ⟨same_upd nC, upd_same⟩ (fun l H' _ hp => SqL.of (hp.1 _ _ (s07 _ _ hb'))) (fun l x H8 hx hp => ?_) (fun H8 hp => ?_)⟩
              · obtain ⟨s8, hC⟩ := hp
                obtain ⟨n, hn, rfl⟩ := of_get_ints hx
                have hl := (List.getElem?_eq_some_iff.mp hn).1
                have lc := fo.1
                refine ⟨rfl, _, rfl, _, rfl, _, _, rfl, rfl, .inl ⟨by omega, by omega⟩, _, hC, szL' (by rw [List.length_map, List.length_map, List.length_take]; omega), sm_new s8 nC, ?_⟩
                rw [take_succ_at hn, List.map_append]
                exact at_app
              · obtain ⟨s8, hC⟩ := hp
                rw [List.length_map, List.take_length] at hC
                obtain ⟨nc1, nc2⟩ := nH H7 C s07 (by rw [hF7]; exact fun z => nomatch z) nC
                refine ⟨_, rfl, _, rfl, _, _, rfl, rfl, .inl ⟨by omega, by omega⟩, by show 3 ≤ sizeLine; decide, fun rt nrt => ?_⟩
                have sr := same_upd (o := .tup [.ref lt, .ref C, .int ((1 + (j : Int)) * pieceM ts (1 + (j : Int)))]) nrt
                obtain ⟨nr1, nr2⟩ := nH H8 rt (s07.trans s8) (by rw [s8 _ _ hF7]; exact fun z => nomatch z) nrt
                have hF9 := sr _ _ (s8 _ _ hF7)
                refine ⟨F, _, _, rfl, rfl, hF9, szL' (by rw [List.length_map]; omega), _, _, _, _, _, rfl, sm_new (s07.trans (s8.trans sr)) nF, rs4 ++ [rt], ?_, ?_⟩
                · rw [upd_same, List.map_append]
                  rfl
                · rw [List.range_succ, List.map_append, ← List.append_assoc]
                  have ep : priceM os ⟨i, 1 + (j : Int), []⟩ = (1 + (j : Int)) * pieceM ts (1 + (j : Int)) := by unfold priceM; rw [show ((⟨i, 1 + (j : Int), []⟩ : Ln).p).toNat = i from Int.toNat_natCast i, g2]
                  have ec : contM os ⟨i, 1 + (j : Int), []⟩ = c.map ((1 + (j : Int)) * ·) := by
                    unfold contM
                    rw [show contAt os ((i : Nat) : Int) = c from contAt_get g2]
                    rfl
                  refine push H4 _ rs4 _ rt _ _ all4 ((s5.trans s57).trans (s8.trans sr)) ⟨lt, C, cut_put nr1 (cut_put nr2 ?_), ⟨el, cut_put nl1 (cut_put nl2 ((s8.trans sr) _ _ hlt)), cut_put ne1 (cut_put ne2 ((s8.trans sr) _ _ hel))⟩, ?_⟩
                  · show upd _ rt _ rt = some (.tup [.ref lt, .ref C, .int (priceM os ⟨i, 1 + (j : Int), []⟩)])
                    rw [upd_same, ep]
                  · show cutH F (cutH d _) C = some (LI (contM os ⟨i, 1 + (j : Int), []⟩))
                    rw [ec]
                    exact cut_put nc1 (cut_put nc2 (sr _ _ hC))
          · obtain ⟨y5, y6, y7, y8, y9, rfl, s4, rs4, hF4, all4⟩ := hp
            refine ⟨_, _, _, _, _, _, _, _, rfl, s4, rs4, hF4, ?_⟩
            rw [hend em]
            exact all4
    · obtain ⟨y2, y3, y4, y5, y6, y7, y8, y9, rfl, s1, rs, hF1, all⟩ := hp
      rw [List.length_map, h2, ← prows_flat] at all
      exact ⟨_, rfl, q H1 F s1 nF ⟨nFd, rs, hF1, all.imp fun r x h => h.ke (.of cut_le)⟩⟩
end
/-! ### what stands of a heap while d and tables change -/
structure Fr (T : List Addr) (d : Addr) (Hb H : Hp) : Prop where
  ke : Ke Hb (cutH d H)
  dr : ∃ ds, H d = some (LI ds)
  tb : Tb T H
section
variable {T : List Addr} {d : Addr} {Hb H H' : Hp}
theorem Fr.ext (F : Fr T d Hb H) (e : Ext T H H') : Fr T d Hb H' := by
  obtain ⟨ds, hd⟩ := F.dr
  exact ⟨F.ke.trans e.ke.cut, ⟨ds, e.lst hd⟩, e.t1⟩
theorem Fr.same (F : Fr T d Hb H) (s : Same H H') : Fr T d Hb H' := F.ext (.same s F.tb)
theorem Fr.but (F : Fr T d Hb H) (s : SameBut d H H') (h : ∃ ds, H' d = some (LI ds)) : Fr T d Hb H' := by
  obtain ⟨ds, hd⟩ := F.dr
  exact ⟨F.ke.trans (.of (cut_same s)), h, tb_but s hd F.tb⟩
theorem Fr.all (F : Fr T d Hb H) : Ke Hb H := F.ke.trans (.of cut_le)
theorem Fr.lst (F : Fr T d Hb H) {p : Addr} {xs : List V} (h : Hb p = some (.lst xs)) : H p = some (.lst xs) := F.all.lst h
theorem Fr.tup (F : Fr T d Hb H) {p : Addr} {xs : List V} (h : Hb p = some (.tup xs)) : H p = some (.tup xs) := F.all.tup h
theorem Fr.ne (F : Fr T d Hb H) {p : Addr} {xs : List V} (h : Hb p = some (.lst xs)) : p ≠ d := (cut_some (F.ke.lst h)).1
theorem Fr.start {ds : List Int} (hd : H d = some (LI ds)) (hT : Tb T H) : Fr T d (cutH d H) H := ⟨.refl _, ⟨ds, hd⟩, hT⟩
/-- what is allotted later is apart from d -/
theorem Fr.apart (F : Fr T d Hb H) {p : Addr} (h : H p = none) : p ≠ d := fun z => by
  obtain ⟨ds, e⟩ := F.dr
  rw [z, e] at h
  cases h
end
/-! ### defs that are called while no list or tuple is being shown: str(..) of data -/
structure FnOkG (P : Program) (w : World) (K : PySem.W.Frag) (mg : Str → Option Value) (base : Heap) (k : Nat) (f : Addr) (fd : FuncData) (ps : List Str) (sp : Sp) : Prop where
  count : ∀ vs H Q E, sp vs H Q E → vs.length = ps.length
  go : ∀ (A : Around) (out : List Env) (s : Shared) (H : Hp) (args : Args) (us : List Value) (vs : List V) (Q : VK) (E : XK), A.guards = some [] → Room k A → Env0 P w K mg base A out s H → BindsTo s fd args (ps.zip us) → Vals vs us → sp vs H Q E →
    codeAny (model P w) A (.call (.ref f) args) (CR CX0 out P w H s Q E) s
section
variable {P : Program} {w : World} {K : PySem.W.Frag} {mg : Str → Option Value} {base : Heap}
theorem okG {x qual : Str} {st : Stmt} {f : Addr} {fd : FuncData} {N ps : List Str} {k : Nat} {sp : Sp} (F : Fun K x qual st f fd) (S : FnScope N ps (defScope st)) (cnt : ∀ vs H Q E, sp vs H Q E → vs.length = ps.length)
    (bd : ∀ (cdv : Value) (A : Around) (out : List Env) (s : Shared) (H : Hp) (vs : List V) (Q : VK) (E : XK), (A.deeper (envOfC qual (defScope st) s.heap.objs.size f cdv)).guards = some [] → Room k (A.deeper (envOfC qual (defScope st) s.heap.objs.size f cdv)) → sp vs H Q E →
      ∃ t, PSs (cxOf CX0 P w K mg base N qual (defScope st) f cdv A out s H E).nox (defBody st) t ∧ t { nx := fun _ H' => Q .non H', rt := Q } (start N vs) H) : FnOkG P w K mg base (k + 1) f fd ps sp := by
  obtain ⟨oc, od, kV, doc, pm, an, cdv, ct, osl, rfl, lk, hcd⟩ := F.ex
  refine ⟨cnt, fun A out s H args us vs Q E gd room env bnd rv pre => ?_⟩
  have kin : K.In s.heap := env.mod.kin.keeps fun b o z => (env.bs b o z).1
  have nol : s.heap.NoLimit := env.mod.nolimit.keeps fun b o z => (env.bs b o z).1
  refine codeAny_call_function room.depth (kin _ _ lk) rfl S.co S.gen rfl (PySem.W.codeRec_of kin hcd) (bnd _ _ _ _ ?_)
  refine wpAny_newFunctionEnv_cells S.kind (fun y hy => ?_) fun env' he s1 inside => ?_
  · have hp := S.par y.1 (List.of_mem_zip (show (y.1, y.2) ∈ ps.zip us from hy)).1
    exact hp.imp id fun z => ⟨z, PySem.W.cellsFrom_some _ _ _ (.inl z)⟩
  · subst he
    refine ⟨nol.keeps inside.toInCall.keep, codeAny_func ?_⟩
    obtain ⟨t, body, holds⟩ := bd cdv A out s H vs Q E gd (room.deeper _) pre
    have inv : Inv (cxOf CX0 P w K mg base N qual (defScope st) f cdv A out s H E) [] (start N vs) H s1 := inv_start S room.hd env (cnt _ _ _ _ pre) rv inside
    refine wpAny_mono (body.nox.run [] s1 (start N vs) H _ inv holds) (fun fl s' res => ?_) fun _ _ z => z
    cases fl with
    | brk => exact res.elim fun _ z => z.elim fun _ z => z.2.elim
    | cont => exact res.elim fun _ z => z.elim fun _ z => z.2.elim
    | next =>
      obtain ⟨_, Hn, J, z⟩ := res
      exact ⟨.non, Hn, J.os, J.bare, J.base, J.hok, rfl, z⟩
    | ret u =>
      obtain ⟨v, _, Hn, J, rel, z⟩ := res
      exact ⟨v, Hn, J.os, J.bare, J.base, J.hok, rel, z⟩
/-- f(e, ..), f such a def -/
theorem pe_callG {X : Cx} {x : Str} {f : Addr} {fd : FuncData} {ps : List Str} {sp : Sp} {k : Nat} {p pos : Pos} {e : Expr} {es : List Expr} {t : TA} (gd : X.A.guards = some []) (F : FnOkG X.prog X.w X.K X.mg X.base k f fd ps sp) (room : Room k X.A) (hg : Gl X x) (hm : X.mg x = some (.ref f)) (kp : PySem.W.keepIn X.K (.ref f) = true) (bnd : Binds X.K fd ps [])
    (args : PA X (e :: es) t) (hx : Passes CX0 X fun _ _ _ => False) (nodb : (x == ("__debug__" : Str)) = false := by decide) (plain : starEach (e :: es) X.env = (false, eval e X.env) :: starEach es X.env := by rfl) (rest : (backTo pos (starEach es X.env)).any (·.1) = false := by rfl) :
    PE X (.Call (.Name x p) (e :: es) [] pos) (tCall sp [] (fun _ _ _ => False) t) := by
  refine ⟨fun pins s σ H Q I pre => wpAny_Call_Name_kw (ld_glob I hg hm ?_ nodb)⟩
  refine PySem.W.callWith_K (h₀ := X.base) I.ok.mod.kin kp (thn (args.run pos pins s σ H _ I pre) fun us s1 got => ?_) plain rest
  obtain ⟨vs, H1, I1, rel, pre1⟩ := got
  have pre1' : sp vs H1 Q fun _ _ _ => False := by
    have z := pre1
    rw [List.append_nil] at z
    exact z
  have many : us.length = ps.length := by rw [← rel.length]; exact F.count _ _ _ _ pre1'
  have bt := bnd s1 us I1.kIn (by rw [List.append_nil]; exact many)
  rw [List.append_nil] at bt
  refine ⟨I1.kIn, wpAny_call (codeAny_mono (F.go X.A X.stack s1 H1 ⟨us, []⟩ us vs Q _ gd room I1.env0 bt rel pre1') fun r s' res => ?_)⟩
  match r, res with
  | .error er, z => exact hx pins σ H1 s1 er s' I1 z
  | .ok (.ret u), z => exact I1.after z
/-- str(x) of data -/
def rStrD (K : PySem.W.Frag) : List V → Hp → VK → Prop := fun xs H Q => ∃ (a : Addr) (d : PyData), xs = [.ref a] ∧ Dp K H (.ref a) d ∧ d.showable = true ∧ d.hasDict = false ∧ d.depth ≤ 60 ∧ d.shown.length ≤ sizeLine ∧ Q (.str d.shown) H
theorem cr_strD {X : Cx} (gd : X.A.guards = some []) (hu : X.A.units + 64 < cLine) : CallR X (.type "str") (rStrD X.K) := by
  intro pins s σ H vs us Q I rel pre
  obtain ⟨a, d, rfl, dp, sh, nd, dep, small, q⟩ := pre
  rw [Vals.ref1 rel]
  obtain ⟨as, rd⟩ := Dp.reads I _ _ _ dp rfl
  exact str_of_reads rd sh (fun z => by rw [nd] at z; cases z) gd (by omega) (fun _ _ z => z) (fun h' u tk keep => ⟨.str _, H, I.kept keep, ⟨u, rfl⟩, q⟩) small
theorem cr_strDK {X : Cx} {K : PySem.W.Frag} (h : X.K = K) (gd : X.A.guards = some []) (hu : X.A.units + 64 < cLine) : CallR X (.type "str") (rStrD K) := by subst h; exact cr_strD gd hu
end
/-! ### walks over d.items(), d with tuple keys -/
/-- the heap's own view of such a dict: o itself, its entries in order, each key a tuple that is held, each value alike -/
theorem seen_dT {X : Cx} {pins : List (Addr × Obj)} {σ : L2.St} {H : Hp} {s : Shared} {d : Addr} {o : Obj} {kvs : List (List Key × V)} (I : Inv X pins σ H s) (h : H d = some (.frz o (.dT kvs))) :
    (d == sysModules) = false ∧ s.heap.get? d = some o ∧ o.ExactDict ∧ ∃ (es : Array DictEntry) (ep : Nat), o.data = .dict es ep ∧ es.size = kvs.length ∧
      ∀ (i : Nat) (k : List Key) (v : V), kvs[i]? = some (k, v) → ∃ (en : DictEntry) (q : Addr), es[i]? = some en ∧ en.key = .ref q ∧ H q = some (.tup (k.map kV)) ∧ RelV v en.val := by
  obtain ⟨itself, _, noModules, xs, alike, u, es, ep, there, exact_, isDict, entries, _⟩ := I.hok d _ h
  cases itself.symm.trans there
  have many : es.size = kvs.length := (size_of_entries entries).trans (Paired.length alike).symm
  refine ⟨noModules, there, exact_, es, ep, isDict, many, ?_⟩
  intro i k v at_
  obtain ⟨b, inB, _, key, val⟩ := paired_get alike at_
  have inEs := entry_at entries i
  rw [inB] at inEs
  exact ⟨_, b.2.1, inEs, rfl, key, val⟩
/-- what a walk hands out at its i-th turn: a new tuple of the key's own tuple and the value -/
def ItemT (d : Addr) (o : Obj) (kvs : List (List Key × V)) (i : Nat) (H : Hp) (x : V) (H' : Hp) : Prop := ∃ T k v q, kvs[i]? = some (k, v) ∧ x = .ref T ∧ H T = none ∧ H q = some (.tup (k.map kV)) ∧ H' = upd H T (.tup [.ref q, v])
def ItiT (d : Addr) (o : Obj) (kvs : List (List Key × V)) : It where
  go := fun i H => H d = some (.frz o (.dT kvs)) ∧ i < kvs.length
  yld := ItemT d o kvs
  stop := fun i H => H d = some (.frz o (.dT kvs)) ∧ kvs.length ≤ i
theorem turn_itemsT {P : Program} {w : World} {K : PySem.W.Frag} {d : Addr} {o : Obj} {es : Array DictEntry} {ep : Nat} {kvs : List (List Key × V)} {elts : List Expr} {kk : Nat} {tpos : Pos} (it : Addr) (hod : o.data = .dict es ep) :
    Turn P w K (.Tuple elts kk tpos) (ItiT d o kvs) [it] it (fun i h => ∃ ok ov, IsItemIter h it d i es.size ep ok ov) where
  mem := List.mem_singleton.mpr rfl
  obj := fun i h st b hb => by
    cases List.mem_singleton.mp hb
    exact st.elim fun ok st => st.elim fun ov at_ => ⟨_, at_, nofun⟩
  keep := fun i h h' st more => st.elim fun ok st => st.elim fun ov at_ => ⟨ok, ov, more it (List.mem_singleton.mpr rfl) _ at_⟩
  self := fun A i s Q E st q => st.elim fun _ st => st.elim fun _ at_ => PySem.W.kcp_self at_ q
  item := by
    rintro X rfl rfl rfl hc i pins s σ H E I foot ⟨ok, ov, at_⟩ ⟨held, li⟩
    obtain ⟨_, there, exact_, es1, ep1, isDict, many, entry⟩ := seen_dT I held
    cases hod.symm.trans isDict
    obtain ⟨en, q, inEs, key, tup, val⟩ := entry i _ _ (List.getElem?_eq_getElem li)
    have lj : i < es.size := many ▸ li
    cases (Array.getElem?_eq_getElem lj).symm.trans inEs
    have low : it < s.heap.objs.size := Heap.lt_size at_
    refine DT.nextI at_ ⟨o, there, exact_, hod⟩ lj fun h1 isIter isTup _ more => ⟨_, rfl, wpAny_letOwnedTupleGo_items (s := { s with heap := h1 }) isIter fun h2 isIter2 but => ?_⟩
    have made : ObjOk X.prog X.w (upd H s.heap.objs.size (.tup [.ref q, kvs[i].2])) h2 s.heap.objs.size (.tup [.ref q, kvs[i].2]) :=
      ⟨(by decide : 2 ≤ sizeLine), [es[i].key, es[i].val], .cons key (.cons val .nil), ⟨_, (but.2 _ (Nat.ne_of_gt low)).trans isTup, rfl, _, rfl⟩⟩
    have J := I.turnedNew (t' := s.toks) (ch := [it]) (fun b u far e => (but.2 b (fun z => far (List.mem_singleton.mpr z))).trans (more b u (fun z => far (List.mem_singleton.mpr z)) e)) foot (Nat.le_refl _) made
    refine ⟨.ref s.heap.objs.size, _, J, rfl, ⟨_, _, _, q, List.getElem?_eq_getElem li, rfl, I.hok.fresh (Nat.le_refl _), tup, rfl⟩, ⟨_, _, isIter2⟩, fun b hb => ?_⟩
    cases List.mem_singleton.mp hb
    exact (upd_ne (Nat.ne_of_lt low)).trans (foot it hb).1
  done := by
    rintro X rfl rfl rfl hc i pins s σ H E I foot ⟨ok, ov, at_⟩ ⟨held, le⟩
    obtain ⟨_, there, exact_, es1, ep1, isDict, many, _⟩ := seen_dT I held
    cases hod.symm.trans isDict
    have F := foot it (List.mem_singleton.mpr rfl)
    exact DT.endI (I.ok.hd hc) at_ ⟨o, there, exact_, hod⟩ (many ▸ le) fun h1 more => ⟨rfl, I.turned (t' := s.toks) more F.1 F.2.1 F.2.2.2.1 F.2.2.2.2.1 F.2.2.2.2.2⟩
def iItemsT (td : TE) : TI := fun σ H R => td σ H fun x H1 => ∃ d o kvs, x = .ref d ∧ H1 d = some (.frz o (.dT kvs)) ∧ R (ItiT d o kvs) H1
theorem pi_itemsT {X : Cx} {e : Expr} {td : TE} {apos cpos : Pos} {elts : List Expr} {kk : Nat} {tpos : Pos} (he : PE X e td) (hbase : attributeBase e "items" X.env (eval e X.env) = eval e X.env := by rfl) (hline : (apos.endLine == cpos.line) = true := by rfl) :
    PI X (.Tuple elts kk tpos) (.Call (.Attribute e "items" apos) [] [] cpos) (iItemsT td) := by
  constructor
  intro pins s σ H R I h
  refine wpAny_Call_method (T := "dict") (id := "dict.items") hbase rfl hline F.plainAttrs_dict F.slot_dict_items F.type_dict_items (thn (he.run pins s σ H _ I h) ?_)
  rintro u s1 ⟨_, H1, J, isRef, d, o, kvs, rfl, held, q⟩
  cases (show u = Value.ref d from isRef)
  obtain ⟨noModules, there, exact_, es, ep, isDict, _⟩ := seen_dT J held
  have raw : DT.Raw s1.heap d es ep := ⟨o, there, exact_, isDict⟩
  have D := isD_at J (.inr ⟨kvs, .inr ⟨o, held⟩⟩)
  have view : (s1.heap.push { cls := .type "dict_items", data := .fields #[.ref d] }).get? s1.heap.objs.size = some { cls := .type "dict_items", data := .fields #[.ref d] } := Heap.get?_push_size _ rfl
  have walk : wpAny (model X.prog X.w) X.A (pyIter (.ref s1.heap.objs.size)) (PIE X pins σ (.Tuple elts kk tpos) R) X.xe { s1 with heap := s1.heap.push { cls := .type "dict_items", data := .fields #[.ref d] } } :=
    DT.iterI (d := d) ⟨_, view, rfl, rfl⟩ (raw.push _) (pi_one (tk := s1.toks) (J.kept (t' := s1.toks) fun _ _ e => Heap.get?_push_of_some _ e) _ (turn_itemsT _ isDict) ⟨.none, .none, Heap.get?_push_size _ rfl⟩ q)
  exact ⟨D.1, D.2.1, method_meetsIn F.slot_dict_items F.entry_dict_items rfl (PySem.evalArgs_none ⟨rfl, raw.typeIs, F.args_dict_items_1 _, _, DT.meetsItems noModules, raw, walk⟩)⟩
theorem walk_itemsT {d : Addr} {o : Obj} {kvs : List (List Key × V)} : Walk (ItiT d o kvs) kvs.length (fun H => H d = some (.frz o (.dT kvs))) (ItemT d o kvs) where
  goes := fun _ _ li held => ⟨held, li⟩
  stops := fun _ held => ⟨held, Nat.le_refl _⟩
  yields := fun _ _ _ _ _ _ y => y
/-! ### cases -/
abbrev s_cases : Stmt := topS 26
abbrev N_cases : List Str := ["shop", "want", "steps", "less", "step"]
theorem sc_cases : FnScope N_cases ["shop", "want"] (defScope s_cases) := ⟨rfl, rfl, rfl, by decide +kernel, rfl, by decide +kernel, by decide +kernel⟩

/-- a row of a table: where its list stands, the wants, the number -/
abbrev TR := Addr × List Int × Option Int
def TRowF (H0 H : Hp) (a : Addr) (x : TR) : Prop := H a = some (.tup [.ref x.1, optV x.2.2]) ∧ H x.1 = some (LI x.2.1) ∧ H0 a = none ∧ H0 x.1 = none
theorem TRowF.ke {H0 H H' : Hp} (e : Ke H H') {a : Addr} {x : TR} (h : TRowF H0 H a x) : TRowF H0 H' a x := ⟨e.tup h.1, e.lst h.2.1, h.2.2⟩
def TableF (H0 H : Hp) (q : Addr) (xs : List TR) : Prop := ∃ as : List Addr, H q = some (.lst (as.map V.ref)) ∧ Al (TRowF H0 H) as xs ∧ (xs.map (·.1)).Nodup ∧ q ∉ xs.map (·.1) ∧ H0 q = none
def sp_cases (T : List Addr) : Sp := fun vs H Q _ => ∃ (a wa : Addr) (os : List Ofr) (ws : List Int), vs = [.ref a, .ref wa] ∧ ShopAt H a os ∧ Good os ∧ Fit os ∧ NN (shopRws os) ∧ Tb T H ∧ H wa = some (LI ws) ∧ ws.length ≤ 4 ∧ Small ws ∧
  ∀ H' (q : Addr) (xs : List TR), Ext T H H' → H q = none → TableF H H' q xs → xs.map (·.2.1) = lesserF ws → (∀ x ∈ xs, LeastIs (shopRws os) x.2.1 x.2.2) → Q (.ref q) H'
section
variable {P : Program} {w : World} {K : PySem.W.Frag} {mg : Str → Option Value} {base : Heap} {T : List Addr}
theorem ok_cases {f f1 f2 : Addr} {fd fd1 fd2 : FuncData} {k : Nat} (M : Names mg) (D : Def K mg "cases" s_cases ["shop", "want"] f fd) (D_priced_lines : Def K mg "priced_lines" s_priced_lines ["shop"] f1 fd1) (D_all_steps : Def K mg "all_steps" s_all_steps ["priced", "want"] f2 fd2) (G_priced_lines : FnOk P w K mg base CX0 (k + 1) f1 fd1 ["shop"] (sp_priced_lines T)) (G_all_steps : FnOk P w K mg base CX0 (k + 1) f2 fd2 ["priced", "want"] sp_all_steps) : FnOk P w K mg base CX0 (k + 2) f fd ["shop", "want"] (sp_cases T) := by
  refine D.F.ok sc_cases (fun vs H Q E h => ?_) (fun cdv A outer s H vs Q E hr h => ?_)
  · obtain ⟨a, wa, os, ws, rfl, _⟩ := h
    rfl
  · obtain ⟨a, wa, os, ws, rfl, hS, gd, fit, nn, hT, hwa, h4, sm, q⟩ := h
    refine ⟨_, (pss_cons (ps_set (i := 2) sc_cases.nd rfl (Or.inl rfl) (pe_call G_all_steps hr (by rfl) D_all_steps.g D_all_steps.F.kp D_all_steps.b .nil pass0 (pa_cons (pe_call G_priced_lines hr (by rfl) D_priced_lines.g D_priced_lines.F.kp D_priced_lines.b .nil pass0 (pa_cons (pv 0) pa_nil)) (pa_cons (pv 1) pa_nil))))
  (pss_one (ps_ret (pe_lock (pe_lc (own := [("less", 3), ("step", 4)]) (by rfl) sc_cases.nd (pi_itemsT (pv 2)) (blkOk_by (own := [("less", 3), ("step", 4)]) (N := N_cases) (sc := defScope s_cases) (by decide +kernel)) (fun _ _ _ _ _ => (pg_tupK (K := K) (n := 2) rfl rfl (pgs_cons (pg_name (i := 3) sc_cases.nd rfl (Or.inl rfl)) (pgs_cons (pg_name (i := 4) sc_cases.nd rfl (Or.inl rfl)) pgs_nil)))) (fun _ _ _ _ _ => pts_nil) (fun _ _ _ _ _ => (pe_tup (pa_cons (pe_callTy (call_list_ofK (K := K) rfl) (by rfl) M.list (by decide +kernel) (pa_cons (pv 3) pa_nil)) (pa_cons (pe_ifExp (pt_cmpR op_isN (pv 4) pe_non (nomark _)) pe_non (pe_ix (ix_tupK (K := K) rfl) (pv 4) pe_int (fun _ _ => rfl))) pa_nil))))))))), ?_⟩
    refine ⟨_, rfl, a, os, rfl, hS, gd, fit, hT, fun H1 pa e1 npa hpr => ?_⟩
    obtain ⟨as, hpa, al⟩ := hpr
    refine ⟨_, rfl, pa, wa, ws, as, prowsM os, rfl, hpa, al.imp fun r x h => h.at, e1.lst hwa, h4, sm, nn, fun H2 d s2 nd st => ?_⟩
    obtain ⟨vs, hd2, hvl, hvs⟩ := st
    have big := lesserF_le4 sm h4
    refine ⟨d, _, hd2, True.intro, fun od => ?_⟩
    have sd : SameBut d H2 (upd H2 d (.frz od (.dT (((lesserF ws).map keyW).zip vs)))) := .upd
    have s12 : Same H1 (upd H2 d (.frz od (.dT (((lesserF ws).map keyW).zip vs)))) := sm_new s2 nd
    have hd3 : upd H2 d (.frz od (.dT (((lesserF ws).map keyW).zip vs))) d = some (.frz od (.dT (((lesserF ws).map keyW).zip vs))) := upd_same
    generalize upd H2 d (.frz od (.dT (((lesserF ws).map keyW).zip vs))) = H3 at sd s12 hd3 ⊢
    have lzip : (((lesserF ws).map keyW).zip vs).length = (lesserF ws).length := by rw [List.length_zip, List.length_map, hvl, Nat.min_self]
    refine ⟨_, rfl, d, od, _, rfl, hd3, fun B nB => ?_⟩
    have nBd : B ≠ d := (ne_of_none hd3 nB).symm
    have nB1 : H1 B = none := s12.free nB
    refine lc_it walk_itemsT (fun j H' => Same H1 H' ∧ SameBut d H2 H' ∧ H' d = some (.frz od (.dT (((lesserF ws).map keyW).zip vs))) ∧ ∃ (rs : List Addr) (xs : List TR), H' B = some (.lst (rs.map V.ref)) ∧ Al (TRowF H (cutH B H')) rs xs ∧ (xs.map (·.1)).Nodup ∧ xs.map (·.2.1) = (lesserF ws).take j ∧ ∀ x ∈ xs, LeastIs (shopRws os) x.2.1 x.2.2) ⟨s12.trans (same_upd nB), sd.trans (.of (same_upd nB)), (same_upd nB) _ _ hd3, [], [], upd_same, True.intro, List.nodup_nil, rfl, fun x hx => nomatch hx⟩ (fun j H' _ hp => hp.2.2.1) (fun j x H4 H5 hj hp hy => ?_) (fun H4 hp => ?_)
    · obtain ⟨s14, sd4, hd4, rs, xs, hB4, all, ndp, exs, hli⟩ := hp
      obtain ⟨t, ky, v, kq, hkv, rfl, nt, hkq, rfl⟩ := hy
      rw [lzip] at hj
      obtain ⟨w, hw⟩ : ∃ w, (lesserF ws)[j]? = some w := ⟨_, List.getElem?_eq_getElem hj⟩
      obtain ⟨v', hv'⟩ : ∃ v', vs[j]? = some v' := ⟨_, List.getElem?_eq_getElem (by omega)⟩
      have hkv' : (((lesserF ws).map keyW).zip vs)[j]? = some (keyW w, v') := by
        rw [List.getElem?_zip_eq_some]
        exact ⟨by rw [List.getElem?_map, hw]; rfl, hv'⟩
      rw [hkv'] at hkv
      cases Option.some.inj hkv
      have sv := hvs j w v hw hv'
      rw [keyW_kV] at hkq
      have s5 := same_upd (o := .tup [.ref kq, v]) nt
      have ht5 : upd H4 t (.tup [.ref kq, v]) t = some (.tup [.ref kq, v]) := upd_same
      have hkq5 := s5 _ _ hkq
      have hB5 := s5 _ _ hB4
      have hd5 := s5 _ _ hd4
      generalize upd H4 t (.tup [.ref kq, v]) = H5 at s5 ht5 hkq5 hB5 hd5 ⊢
      have lxs : xs.length ≤ 10000 := by
        have := congrArg List.length exs
        rw [List.length_map, List.length_take] at this
        omega
      have lrs := all.len
      -- the end
      have fin : ∀ (H6 : Hp) (b : Addr) (o : Option Int), H5 b = none → H6 = upd H5 b (LI w) → LeastIs (shopRws os) w o → ∀ t2, H6 t2 = none → ∃ acc, upd H6 t2 (.tup [.ref b, optV o]) B = some (.lst acc) ∧ acc.length < sizeLine ∧ (Same H1 (upd (upd H6 t2 (.tup [.ref b, optV o])) B (.lst (acc ++ [.ref t2]))) ∧ SameBut d H2 (upd (upd H6 t2 (.tup [.ref b, optV o])) B (.lst (acc ++ [.ref t2]))) ∧ upd (upd H6 t2 (.tup [.ref b, optV o])) B (.lst (acc ++ [.ref t2])) d = some (.frz od (.dT (((lesserF ws).map keyW).zip vs))) ∧ ∃ (rs : List Addr) (xs : List TR), upd (upd H6 t2 (.tup [.ref b, optV o])) B (.lst (acc ++ [.ref t2])) B = some (.lst (rs.map V.ref)) ∧ Al (TRowF H (cutH B (upd (upd H6 t2 (.tup [.ref b, optV o])) B (.lst (acc ++ [.ref t2]))))) rs xs ∧ (xs.map (·.1)).Nodup ∧ xs.map (·.2.1) = (lesserF ws).take (j + 1) ∧ ∀ x ∈ xs, LeastIs (shopRws os) x.2.1 x.2.2) := by
        intro H6 b o nb e6 li t2 nt2
        subst e6
        have s6 := same_upd (o := LI w) nb
        have s7 := s6.trans (same_upd (o := .tup [.ref b, optV o]) nt2)
        have s47 := s5.trans s7
        have nbB : b ≠ B := fun z => by rw [z, hB5] at nb; cases nb
        have nt2B : t2 ≠ B := fun z => by rw [z, s6 _ _ hB5] at nt2; cases nt2
        have nbx : ∀ y ∈ xs.map (·.1), y ≠ b := fun y hy z => by
          obtain ⟨x, hx, e⟩ := List.mem_map.mp hy
          obtain ⟨i, hi, e2⟩ := List.getElem_of_mem hx
          have g : rs[i]? = some (rs[i]'(by omega)) := List.getElem?_eq_getElem (by omega)
          obtain ⟨y', hy', hln⟩ := all.get g
          rw [List.getElem?_eq_getElem hi, e2] at hy'
          cases Option.some.inj hy'
          have := s5 _ _ (cut_some hln.2.1).2
          rw [e, z, nb] at this
          cases this
        have fr : ∀ x, H4 x = none → H x = none := fun x hx => e1.free _ (s14.free hx)
        refine ⟨_, s47 _ _ hB4, szL' (by rw [List.length_map]; omega), sm_new (s14.trans s47) nB1, ?_, ?_, rs ++ [t2], xs ++ [(b, w, o)], ?_, ?_, ?_, ?_, fun x hx => ?_⟩
        · intro c oc nc hc
          have h7 := (sd4.trans (.of s47)) c oc nc hc
          rw [upd_ne (fun z => by
            rw [z] at hc
            have e3 := sd _ _ nBd hc
            rw [nB] at e3
            cases e3)]
          exact h7
        · rw [upd_ne nBd.symm]
          exact s47 _ _ hd4
        · rw [upd_same, List.map_append]
          rfl
        · rw [cut_off]
          refine Al.app (all.imp fun l x h => h.ke (.of (cut_mono s47))) (.one ⟨cut_put nt2B upd_same, cut_put nbB ?_, fr _ (s5.free (s6.free nt2)), fr _ (s5.free nb)⟩)
          rw [upd_ne (ne_of_none upd_same nt2)]
          exact upd_same
        · rw [List.map_append]
          refine List.nodup_append.mpr ⟨ndp, by simp, fun x hx y hy => ?_⟩
          rw [List.mem_singleton.mp hy]
          exact nbx x hx
        · rw [List.map_append, exs, take_succ_at hw]
          rfl
        · rcases List.mem_append.mp hx with z | z
          · exact hli x z
          · rw [List.mem_singleton.mp z]
            exact li
      refine ⟨t, _, rfl, SqT.of ht5, rfl, _, _, rfl, _, _, rfl, rfl, rfl, _, rfl, kq, _, rfl, .inr (SqT.of hkq5), fun b nb => ?_⟩
      rcases sv with ⟨rfl, li⟩ | ⟨pb, p, rfl, li, way⟩
      · refine ⟨_, rfl, rfl, true, rfl, by show 2 ≤ sizeLine; decide, fun t2 nt2 => ?_⟩
        exact fin _ b none nb rfl li t2 nt2
      · have hf : ∃ y, H2 pb = some (.tup [.int p, y]) := by
          rcases way with ⟨_, z⟩ | ⟨_, _, _, _, _, _, z, _⟩
          · exact ⟨_, z⟩
          · exact ⟨_, z⟩
        obtain ⟨yf, hf⟩ := hf
        have npd : pb ≠ d := fun z => by rw [z, hd2] at hf; cases hf
        have hf6 := (same_upd (o := LI w) nb) _ _ (s5 _ _ (sd4 _ _ npd hf))
        refine ⟨_, rfl, rfl, false, rfl, ?_⟩
        refine ⟨_, rfl, pb, _, _, _, rfl, rfl, SqT.of hf6, atI_nat (j := 0) rfl, by show 2 ≤ sizeLine; decide, fun t2 nt2 => ?_⟩
        exact fin _ b (some p) nb rfl li t2 nt2
    · obtain ⟨s14, sd4, hd4, rs, xs, hB4, all, ndp, exs, hli⟩ := hp
      rw [lzip, List.take_length] at exs
      refine ⟨hd4, ?_⟩
      have s1f : Same H1 (upd H4 d (.dT (((lesserF ws).map keyW).zip vs))) := sm_new s14 nd
      have kd : ∀ {b o}, H4 b = some o → (∀ x y, o ≠ .frz x y) → upd H4 d (.dT (((lesserF ws).map keyW).zip vs)) b = some o := fun {b o} hb hn => by
        rw [upd_ne (fun z => by rw [z, hd4] at hb; exact hn _ _ (Option.some.inj hb).symm)]
        exact hb
      refine q _ B xs (e1.trans (.same s1f e1.t1)) (e1.free _ nB1) ⟨rs, kd hB4 (fun _ _ z => nomatch z), all.imp fun a x h => ⟨kd (cut_some h.1).2 (fun _ _ z => nomatch z), kd (cut_some h.2.1).2 (fun _ _ z => nomatch z), h.2.2⟩, ndp, fun hB => ?_, e1.free _ nB1⟩ exs hli
      obtain ⟨x, hx, e⟩ := List.mem_map.mp hB
      obtain ⟨i, hi, e2⟩ := List.getElem_of_mem hx
      have lrs := all.len
      have g : rs[i]? = some (rs[i]'(by omega)) := List.getElem?_eq_getElem (by omega)
      obtain ⟨y', hy', hln⟩ := all.get g
      rw [List.getElem?_eq_getElem hi, e2] at hy'
      cases Option.some.inj hy'
      exact (cut_some hln.2.1).1 e
end
/-! ### _law_lesser, _law_rest, _law_table -/
abbrev s_law_lesser : Stmt := topS 42
abbrev N_law_lesser : List Str := ["_law_want_here", "_law_found", "_law_number", "_law_wider", "_law_one", "_law_less_here"]
theorem sc_law_lesser : FnScope N_law_lesser ["_law_want_here"] (defScope s_law_lesser) := ⟨rfl, rfl, rfl, by decide +kernel, rfl, by decide +kernel, by decide +kernel⟩

abbrev s_law_rest : Stmt := topS 43
abbrev N_law_rest : List Str := ["_law_want_here", "_law_content_here", "_law_k"]
theorem sc_law_rest : FnScope N_law_rest ["_law_want_here", "_law_content_here"] (defScope s_law_rest) := ⟨rfl, rfl, rfl, by decide +kernel, rfl, by decide +kernel, by decide +kernel⟩

section
variable {P : Program} {w : World} {K : PySem.W.Frag} {mg : Str → Option Value} {base : Heap}
theorem ok_llesser {f : Addr} {fd : FuncData} {k : Nat} (M : Names mg) (D : Def K mg "_law_lesser" s_law_lesser ["_law_want_here"] f fd) : FnOk P w K mg base CX0 (k + 1) f fd ["_law_want_here"] (sp_lesser K) := by
  refine D.F.ok sc_law_lesser (fun vs H Q E h => ?_) (fun cdv A outer s H vs Q E hr h => ?_)
  · obtain ⟨a, ws, rfl, _⟩ := h
    rfl
  · obtain ⟨a, ws, rfl, ha, h4, sm, q⟩ := h
    refine ⟨_, (pss_cons (ps_set (i := 1) sc_law_lesser.nd rfl (Or.inl rfl) (pe_lst (pa_cons (pe_lst pa_nil) pa_nil)))
  (pss_cons (ps_for PassesOwn.never rfl (pi_list (pv 0)) (pg_name (i := 2) sc_law_lesser.nd rfl (Or.inl rfl))
   (pss_cons (ps_set (i := 3) sc_law_lesser.nd rfl (Or.inl rfl) (pe_lst pa_nil))
  (pss_cons (ps_for PassesOwn.never rfl (pi_list (pv 1)) (pg_name (i := 4) sc_law_lesser.nd rfl (Or.inl rfl))
   (pss_one (ps_for PassesOwn.never rfl (pi_range1 (by rfl) M.range (pa_cons (pe_op op_add (pv 2) pe_int) pa_nil)) (pg_name (i := 5) sc_law_lesser.nd rfl (Or.inl rfl))
   (pss_one (ps_expr (pe_bm PySem.F.plainAttrs_list PySem.F.slot_list_append PySem.F.type_list_append mt_append (pv 3) (pa_cons (pe_op op_cat (pv 4) (pe_lst (pa_cons (pv 5) pa_nil))) pa_nil)))))))
  (pss_one (ps_set (i := 1) sc_law_lesser.nd rfl (Or.inl rfl) (pv 3))))))
  (pss_one (ps_ret (pv 1))))), ?_⟩
    refine ⟨Nat.zero_le _, fun z nz => ⟨by show 1 ≤ sizeLine; decide, fun b nb => ?_⟩⟩
    have nzb : z ≠ b := ne_of_none upd_same nb
    have s1 : Same H (upd H z (.lst [])) := same_upd nz
    have s2 : Same H (upd (upd H z (.lst [])) b (.lst [.ref z])) := s1.trans (same_upd nb)
    refine ⟨_, rfl, a, rfl, ⟨_, s2.seq ha⟩, for_list (K := K) (a := a) (xs := ws.map V.int) (fun i σ H' => ∃ (p : Addr) (y2 y3 y4 y5 : Option V), σ = [some (.ref a), some (.ref p), y2, y3, y4, y5] ∧ Same H H' ∧ H p = none ∧ Made H p H' (lesserF (ws.take i))) ⟨b, none, none, none, none, rfl, s2, s1.free nb, [z], upd_same, rfl, by simp, fun i b' r hb hr => ?_⟩ (fun i σ H' _ hp => ?_) (fun i x σ H1 hx hp => ?_) (fun σ H' hp => ?_)⟩
    · cases i with
      | succ i => simp at hb
      | zero =>
        cases Option.some.inj hb
        cases Option.some.inj hr
        exact ⟨nz, nzb, by rw [upd_ne nzb]; exact upd_same⟩
    · obtain ⟨p, _, _, _, _, _, s3, _⟩ := hp
      exact s3.seq ha
    · obtain ⟨p, y2, y3, y4, y5, rfl, s3, np, as, hp, hal, nd, hrows⟩ := hp
      obtain ⟨n, hn, rfl⟩ := of_get_ints hx
      have bn := sm n (List.mem_of_getElem? hn)
      have etk := take_succ_at hn
      have smk : Small (ws.take (i + 1)) := fun x hx => sm x (List.mem_of_mem_take hx)
      have big : (lesserF (ws.take (i + 1))).length ≤ 10000 := lesserF_le4 smk (by rw [List.length_take]; omega)
      rw [etk, lesserF_snoc] at big
      generalize hrs : lesserF (ws.take i) = rs at hal hrows big
      have blen : ∀ j, ((rs.take j).flatMap fun s => (upto n).map fun l => s ++ [l]).length = min j rs.length * (n + 1).toNat := fun j => by
        rw [flatMap_const_length _ _ (n + 1).toNat (fun a _ => by rw [List.length_map, upto_length]), List.length_take]
      rw [flatMap_const_length _ _ (n + 1).toNat (fun a _ => by rw [List.length_map, upto_length])] at big
      refine ⟨Nat.zero_le _, fun L nL => ?_⟩
      have nLH : H L = none := s3.free nL
      have sL := same_upd (o := .lst []) nL
      refine ⟨_, rfl, p, rfl, ⟨_, SqL.of (sL _ _ hp)⟩, for_list (K := K) (a := p) (xs := as.map V.ref) (fun j σ H' => ∃ y4 y5 : Option V, σ = [some (.ref a), some (.ref p), some (.int n), some (.ref L), y4, y5] ∧ Same H1 H' ∧ Made H1 L H' ((rs.take j).flatMap fun s => (upto n).map fun l => s ++ [l])) ⟨_, _, rfl, sL, [], upd_same, rfl, by simp, fun j b' r hb => by simp at hb⟩ (fun j σ H' _ hp' => ?_) (fun j x σ H2 hx hp' => ?_) (fun σ H2 hp' => ?_)⟩
      · obtain ⟨_, _, _, s4, _⟩ := hp'
        exact SqL.of (s4 _ _ hp)
      · obtain ⟨y4, y5, rfl, s4, md⟩ := hp'
        rw [List.getElem?_map] at hx
        cases hc : as[j]? with
        | none => rw [hc] at hx; cases hx
        | some c =>
          rw [hc] at hx
          cases Option.some.inj hx
          have hjl := (List.getElem?_eq_some_iff.mp hc).1
          obtain ⟨r, hr⟩ : ∃ r, rs[j]? = some r := ⟨_, List.getElem?_eq_getElem (by omega)⟩
          obtain ⟨nc, ncp, hcr⟩ := hrows j c r hc hr
          have ncL : c ≠ L := ne_of_none hcr nL
          have hrl : r.length ≤ 4 := by
            have z := lesserF_len (w := ws.take i) (r := r) (by rw [hrs]; exact List.mem_of_getElem? hr)
            rw [z, List.length_take]
            omega
          refine ⟨_, rfl, _, _, rfl, rfl, _, rfl, by omega, by omega, for_range (n := (n + 1).toNat) (fun t σ H' => ∃ y5 : Option V, σ = [some (.ref a), some (.ref p), some (.int n), some (.ref L), some (.ref c), y5] ∧ Same H1 H' ∧ Made H1 L H' (((rs.take j).flatMap fun s => (upto n).map fun l => s ++ [l]) ++ ((upto n).take t).map fun l => r ++ [l])) ⟨_, rfl, s4, by rw [List.take_zero, List.map_nil, List.append_nil]; exact md⟩ (fun t σ H3 ht hp' => ?_) (fun σ H3 hp' => ?_)⟩
          · obtain ⟨y5, rfl, s5, md5⟩ := hp'
            have hc5 := s5 _ _ hcr
            obtain ⟨bs, hLb, _⟩ := id md5
            refine ⟨_, rfl, .inl ⟨rfl, _, SqL.of hLb⟩, _, rfl, _, rfl, by show 1 ≤ sizeLine; decide, fun u nu => ?_⟩
            have su := same_upd (o := .lst [.int (0 + (t : Int))]) nu
            refine ⟨c, u, _, _, rfl, rfl, su _ _ hc5, upd_same, szL (by rw [List.length_map]; show r.length + 1 ≤ _; omega), fun v nv => ?_⟩
            have s6 : Same H3 (upd (upd H3 u (.lst [.int (0 + (t : Int))])) v (.lst (r.map V.int ++ [.int (0 + (t : Int))]))) := su.trans (same_upd nv)
            obtain ⟨acc, ha1, ha2, ha3⟩ := md5.snoc (r := r ++ [(0 + (t : Int))]) s5 s6 (su.free nv) (by rw [upd_same, li_app])
            refine ⟨L, _, _, rfl, rfl, ha1, szL' ?_, _, rfl, sm_new (s5.trans s6) nL, ?_⟩
            · rw [ha2, List.length_append, blen, List.length_map, List.length_take, upto_length]
              have m1 : min j rs.length = j := by omega
              have m3 : j * (n + 1).toNat ≤ rs.length * (n + 1).toNat := Nat.mul_le_mul_right _ (by omega)
              rw [m1]
              omega
            · have e2 : (upto n).take (t + 1) = (upto n).take t ++ [(0 + (t : Int))] := take_succ_at (by rw [upto_get ht, Int.zero_add])
              rw [e2, List.map_append, ← List.append_assoc]
              exact ha3
          · obtain ⟨y5, rfl, s5, md5⟩ := hp'
            refine ⟨_, _, rfl, s5, ?_⟩
            have e2 : (upto n).take (n + 1).toNat = upto n := List.take_of_length_le (by rw [upto_length]; exact Nat.le_refl _)
            rw [e2] at md5
            rw [take_succ_at hr, List.flatMap_append]
            simpa using md5
      · obtain ⟨y4, y5, rfl, s4, md⟩ := hp'
        rw [List.length_map, hal, List.take_length] at md
        refine ⟨_, rfl, L, _, _, _, _, rfl, s3.trans s4, nLH, ?_⟩
        rw [etk, lesserF_snoc, hrs]
        obtain ⟨bs, m1, m2, m3, m4⟩ := md
        exact ⟨bs, m1, m2, m3, fun i b r hb hr => ⟨s3.free (m4 i b r hb hr).1, (m4 i b r hb hr).2⟩⟩
    · obtain ⟨p, _, _, _, _, rfl, s3, np, md⟩ := hp
      rw [List.length_map, List.take_length] at md
      exact ⟨_, rfl, q H' p s3 np md⟩
def sp_lrest : Sp := fun vs H Q _ => ∃ (a b : Addr) (ws cs : List Int), vs = [.ref a, .ref b] ∧ H a = some (LI ws) ∧ H b = some (LI cs) ∧ ws.length = cs.length ∧ ws.length ≤ 1000 ∧ ∀ H' p, Same H H' → H p = none → H' p = some (LI (restM ws cs)) → Q (.ref p) H'
theorem ok_lrest {f : Addr} {fd : FuncData} {k : Nat} (M : Names mg) (D : Def K mg "_law_rest" s_law_rest ["_law_want_here", "_law_content_here"] f fd) : FnOk P w K mg base CX0 (k + 1) f fd ["_law_want_here", "_law_content_here"] sp_lrest := by
  refine D.F.ok sc_law_rest (fun vs H Q E h => ?_) (fun cdv A outer s H vs Q E hr h => ?_)
  · obtain ⟨a, b, xs, ys, rfl, _⟩ := h
    rfl
  · obtain ⟨a, b, xs, ys, rfl, ha, hb, hl, h1000, q⟩ := h
    refine ⟨_, (pss_one (ps_ret (pe_lc (own := [("_law_k", 2)]) (by rfl) sc_law_rest.nd (pi_range1 (by rfl) M.range (pa_cons (pe_callB call_len_seq (by rfl) M.len (by decide +kernel) (pa_cons (pv 0) pa_nil)) pa_nil)) (blkOk_by (own := [("_law_k", 2)]) (N := N_law_rest) (sc := defScope s_law_rest) (by decide +kernel)) (fun _ _ _ _ _ => (pg_name (i := 2) sc_law_rest.nd rfl (Or.inl rfl))) (fun _ _ _ _ _ => pts_nil) (fun _ _ _ _ _ => (pe_callB (call_max2 rfl) (by rfl) M.max (by decide +kernel) (pa_cons pe_int (pa_cons (pe_op op_sub (pe_ix (ix_listK (K := K) rfl) (pv 0) (pv 2) (fun _ _ => rfl)) (pe_ix (ix_listK (K := K) rfl) (pv 1) (pv 2) (fun _ _ => rfl))) pa_nil))))))), ?_⟩
    refine ⟨_, rfl, a, _, rfl, .inl (SqL.of ha), _, rfl, by rw [List.length_map]; omega, by rw [List.length_map]; omega, fun B nB => lc_range (lo := 0) (n := ((xs.map V.int).length : Int).toNat) (fun i H' => Same H H' ∧ H' B = some (LI ((restM xs ys).take i))) ⟨same_upd nB, upd_same⟩ (fun i H1 hi hp => ?_) (fun H1 hp => ?_)⟩
    · obtain ⟨s1, hB⟩ := hp
      rw [Int.toNat_natCast, List.length_map] at hi
      have gx := List.getElem?_eq_getElem hi
      have gy := List.getElem?_eq_getElem (show i < ys.length by omega)
      refine ⟨rfl, _, rfl, _, rfl, a, _, _, _, rfl, rfl, SqL.of (s1 _ _ ha), at_of (Int.zero_add _) (get_ints gx), _, rfl, _, rfl, b, _, _, _, rfl, rfl, SqL.of (s1 _ _ hb), at_of (Int.zero_add _) (get_ints gy), _, _, rfl, rfl, _, _, rfl, _, hB, szL' (by rw [List.length_map, List.length_take]; omega), sm_new s1 nB, ?_⟩
      have ey : hadM ys i = ys[i] := Option.some.inj ((hadM_in (show i < ys.length by omega)).symm.trans gy)
      rw [take_succ_at (restM_get gx), ey]
      exact at_app
    · obtain ⟨s1, hB⟩ := hp
      rw [Int.toNat_natCast, List.length_map, List.take_of_length_le (by rw [restM_len]; exact Nat.le_refl _)] at hB
      exact q H1 B s1 nB hB
end
theorem sumI_get : ∀ {ws : List Int} {j : Nat} {x : Int}, (∀ w ∈ ws, 0 ≤ w) → ws[j]? = some x → x ≤ ws.sum
  | [], _, _, _, h => by simp at h
  | a :: r, 0, x, h0, h => by
    cases Option.some.inj h
    have := sumI_nonneg (ws := r) fun w hw => h0 w (List.mem_cons_of_mem _ hw)
    rw [List.sum_cons]
    omega
  | a :: r, j + 1, x, h0, h => by
    have h1 := h0 a List.mem_cons_self
    have h2 := sumI_get (ws := r) (j := j) (x := x) (fun w hw => h0 w (List.mem_cons_of_mem _ hw)) h
    rw [List.sum_cons]
    omega
theorem sumI_zero : ∀ {w : List Int}, (∀ x ∈ w, x = 0) → w.sum = 0
  | [], _ => rfl
  | a :: r, h => by rw [List.sum_cons, h a List.mem_cons_self, sumI_zero fun x hx => h x (List.mem_cons_of_mem _ hx)]; rfl
/-! ### lines that are shown alike are alike -/
theorem minus_not (n : Nat) (t : String) (h : n.repr = "-" ++ t) : False := by
  have h2 := congrArg String.toList h
  rw [Nat.toList_repr, String.toList_append] at h2
  have h3 : '-' ∈ Nat.toDigits 10 n := by
    rw [h2]
    exact List.mem_append.mpr (.inl (by decide))
  have := Nat.isDigit_of_mem_toDigits (by decide) (by decide) h3
  exact absurd this (by decide)
theorem int_text_inj {a b : Int} (h : Int.repr a = Int.repr b) : a = b := by
  rw [Int.repr_eq_if, Int.repr_eq_if] at h
  split at h <;> split at h
  · have := Nat.repr_injective h
    omega
  · exact (minus_not _ _ h).elim
  · exact (minus_not _ _ h.symm).elim
  · have h2 := congrArg String.toList h
    rw [String.toList_append, String.toList_append] at h2
    have := Nat.repr_injective (String.toList_inj.mp (List.append_cancel_left h2))
    omega
def numT (n : Int) : List Nat := ((toString n : String) : Str).cps.toList
theorem numT_inj {a b : Int} (h : numT a = numT b) : a = b := by
  unfold numT at h
  rw [Str.ofString_eq_toList, Str.ofString_eq_toList] at h
  have h1 : (toString a).toList.map Char.toNat = (toString b).toList.map Char.toNat := h
  have h2 : (toString a).toList = (toString b).toList := by
    have inj : ∀ (x y : List Char), x.map Char.toNat = y.map Char.toNat → x = y := by
      intro x
      induction x with
      | nil =>
        intro y e
        cases y with
        | nil => rfl
        | cons _ _ => cases e
      | cons c r ih =>
        intro y e
        cases y with
        | nil => cases e
        | cons d q =>
          injection e with e1 e2
          rw [ih q e2, Char.toNat_inj.mp e1]
    exact inj _ _ h1
  have h3 : toString a = toString b := String.toList_inj.mp h2
  exact int_text_inj h3
theorem numT_free {k : Nat} (hk : k ≠ 45 ∧ (k < 48 ∨ 57 < k)) (n : Int) : k ∉ numT n := PyProof.Rows.int_text_free' k hk n
theorem numT_ne (n : Int) : numT n ≠ [] := fun h => by
  have h2 : ((toString n).toList.map Char.toNat) = [] := by
    unfold numT at h
    rw [Str.ofString_eq_toList] at h
    exact h
  have h3 : (toString n).toList = [] := List.map_eq_nil_iff.mp h2
  have h4 : toString n = "" := String.toList_inj.mp h3
  rw [Int.toString_eq_repr, Int.repr_eq_if] at h4
  split at h4
  · have := congrArg String.toList h4
    rw [Nat.toList_repr] at this
    exact Nat.toDigits_ne_nil this
  · have := congrArg String.toList h4
    simp at this
/-- two texts that have k once, at their parts' ends -/
theorem cutAt {k : Nat} : ∀ {u u' r r' : List Nat}, k ∉ u → k ∉ u' → u ++ k :: r = u' ++ k :: r' → u = u' ∧ r = r'
  | [], [], _, _, _, _, e => ⟨rfl, by injection e⟩
  | [], c :: u', _, _, _, h, e => by
    injection e with e1 _
    exact absurd (e1 ▸ List.mem_cons_self) h
  | c :: u, [], _, _, h, _, e => by
    injection e with e1 _
    exact absurd (e1 ▸ List.mem_cons_self) h
  | c :: u, c' :: u', _, _, h, h', e => by
    injection e with e1 e2
    obtain ⟨h1, h2⟩ := cutAt (fun z => h (List.mem_cons_of_mem _ z)) (fun z => h' (List.mem_cons_of_mem _ z)) e2
    exact ⟨by rw [e1, h1], h2⟩
def joinT : List Int → List Nat
  | [] => []
  | [n] => numT n
  | n :: m :: r => numT n ++ 44 :: 32 :: joinT (m :: r)
theorem joinT_free : ∀ ns : List Int, 93 ∉ joinT ns
  | [] => fun h => nomatch h
  | [n] => numT_free ⟨by decide, by decide⟩ n
  | n :: m :: r => fun h => by
    rcases List.mem_append.mp h with h | h
    · exact numT_free ⟨by decide, by decide⟩ n h
    · rcases List.mem_cons.mp h with h | h
      · cases h
      · rcases List.mem_cons.mp h with h | h
        · cases h
        · exact joinT_free (m :: r) h
theorem joinT_inj : ∀ {a b : List Int}, joinT a = joinT b → a = b
  | [], [], _ => rfl
  | [], [m], h => absurd h.symm (numT_ne m)
  | [], m :: m' :: r, h => by simp [joinT] at h
  | [n], [], h => absurd h (numT_ne n)
  | n :: n' :: r, [], h => by simp [joinT] at h
  | [n], [m], h => by rw [numT_inj h]
  | [n], m :: m' :: r, h => by
    have : (44 : Nat) ∈ numT n := by
      rw [show numT n = numT m ++ 44 :: 32 :: joinT (m' :: r) from h]
      exact List.mem_append.mpr (.inr List.mem_cons_self)
    exact absurd this (numT_free ⟨by decide, by decide⟩ n)
  | n :: n' :: r, [m], h => by
    have : (44 : Nat) ∈ numT m := by
      rw [← show numT n ++ 44 :: 32 :: joinT (n' :: r) = numT m from h]
      exact List.mem_append.mpr (.inr List.mem_cons_self)
    exact absurd this (numT_free ⟨by decide, by decide⟩ m)
  | n :: n' :: r, m :: m' :: q, h => by
    obtain ⟨h1, h2⟩ := cutAt (numT_free ⟨by decide, by decide⟩ n) (numT_free ⟨by decide, by decide⟩ m) (show numT n ++ 44 :: (32 :: joinT (n' :: r)) = numT m ++ 44 :: (32 :: joinT (m' :: q)) from h)
    injection h2 with _ h2
    rw [numT_inj h1, joinT_inj h2]
theorem join_signs : ∀ ns : List Int, (Str.join ", " (ns.map fun n => ((toString n : String) : Str))).cps.toList = joinT ns
  | [] => rfl
  | [n] => rfl
  | n :: m :: r => by
    have ih := join_signs (m :: r)
    show (((toString n : String) : Str) ++ ", " ++ Str.join ", " ((m :: r).map fun n => ((toString n : String) : Str))).cps.toList = numT n ++ 44 :: 32 :: joinT (m :: r)
    rw [Str.cps_append, Str.cps_append, Array.toList_append, Array.toList_append, ih, List.append_assoc]
    rfl
def lineT (l : Ln) : List Nat := 40 :: (numT l.p ++ 44 :: 32 :: (numT l.c ++ 44 :: 32 :: 91 :: (joinT l.as ++ [93, 41])))
theorem shown_line (l : Ln) : (dLine l).shown.cps.toList = lineT l := by
  unfold dLine
  rw [PyData.shown_tuple, PyData.shownAll_cons, PyData.shownAll_cons, PyData.shownAll_cons, PyData.shownAll_nil, PyData.shown_int, PyData.shown_int, PyData.shown_list, PyData.shownAll_ints]
  show ((("(" : Str) ++ (((toString l.p : String) : Str) ++ ", " ++ (((toString l.c : String) : Str) ++ ", " ++ (("[" : Str) ++ Str.join ", " (l.as.map fun n => ((toString n : String) : Str)) ++ "]"))) ++ ")" : Str)).cps.toList = lineT l
  simp only [Str.cps_append, Array.toList_append, join_signs]
  show [40] ++ (numT l.p ++ [44, 32] ++ (numT l.c ++ [44, 32] ++ ([91] ++ joinT l.as ++ [93]))) ++ [41] = lineT l
  unfold lineT
  simp [List.append_assoc]
theorem shown_inj {a b : Ln} (h : (dLine a).shown = (dLine b).shown) : a = b := by
  have e : lineT a = lineT b := by rw [← shown_line, ← shown_line, h]
  injection e with _ e
  obtain ⟨e1, e⟩ := cutAt (numT_free ⟨by decide, by decide⟩ a.p) (numT_free ⟨by decide, by decide⟩ b.p) e
  injection e with _ e
  obtain ⟨e2, e⟩ := cutAt (numT_free ⟨by decide, by decide⟩ a.c) (numT_free ⟨by decide, by decide⟩ b.c) e
  injection e with _ e
  injection e with _ e
  obtain ⟨e3, _⟩ := cutAt (joinT_free a.as) (joinT_free b.as) (show joinT a.as ++ 93 :: [41] = joinT b.as ++ 93 :: [41] from e)
  obtain ⟨p, c, as⟩ := a
  obtain ⟨p', c', as'⟩ := b
  have h1 : p = p' := numT_inj e1
  have h2 : c = c' := numT_inj e2
  have h3 : as = as' := joinT_inj e3
  rw [h1, h2, h3]
/-! ### shops as data -/
def dTier (t : Int × Int) : PyData := .tuple [.int t.1, .int t.2]
def dOfr : Ofr → PyData
  | .pack c p => .tuple [.str "pack", dInts c, .int p]
  | .many c ts => .tuple [.str "many", dInts c, .list (ts.map dTier)]
  | .add c p k => .tuple [.str "add", dInts c, .int p, .int k]
abbrev dShop (os : List Ofr) : PyData := .list (os.map dOfr)
theorem dp_tiers {K : PySem.W.Frag} {H : Hp} : ∀ {us : List Addr} {ts : List (Int × Int)}, us.length = ts.length → (∀ (i : Nat) u (t : Int × Int), us[i]? = some u → ts[i]? = some t → H u = some (.tup [.int t.1, .int t.2])) → DpAll K H (us.map V.ref) (ts.map dTier)
  | [], [], _, _ => .nil
  | [], _ :: _, h, _ => by simp at h
  | _ :: _, [], h, _ => by simp at h
  | u :: us, t :: ts, hl, h => .cons (.tup (SqT.of (h 0 u t rfl rfl)) (.cons (.int _) (.cons (.int _) .nil))) (dp_tiers (by simpa using hl) fun i u' t' a b => h (i + 1) u' t' a b)
theorem TiersAt.dp {K : PySem.W.Frag} {H : Hp} {a : Addr} {ts : List (Int × Int)} (h : TiersAt H a ts) : Dp K H (.ref a) (.list (ts.map dTier)) := by
  obtain ⟨us, h1, h2, h3⟩ := h
  exact .lst (SqL.of h1) (dp_tiers h2 h3)
theorem OfrAt.dp {K : PySem.W.Frag} {H : Hp} {a : Addr} : ∀ {o : Ofr}, OfrAt H a o → Dp K H (.ref a) (dOfr o)
  | .pack c p, ⟨b, h1, h2⟩ => .tup (SqT.of h1) (.cons (.str _) (.cons (dp_ints (SqL.of h2)) (.cons (.int _) .nil)))
  | .many c ts, ⟨b, t, h1, h2, h3⟩ => .tup (SqT.of h1) (.cons (.str _) (.cons (dp_ints (SqL.of h2)) (.cons h3.dp .nil)))
  | .add c p k, ⟨b, h1, h2⟩ => .tup (SqT.of h1) (.cons (.str _) (.cons (dp_ints (SqL.of h2)) (.cons (.int _) (.cons (.int _) .nil))))
theorem dp_ofrs {K : PySem.W.Frag} {H : Hp} : ∀ {vs : List Addr} {os : List Ofr}, Al (OfrAt H) vs os → DpAll K H (vs.map V.ref) (os.map dOfr)
  | [], [], _ => .nil
  | [], _ :: _, h => h.elim
  | _ :: _, [], h => h.elim
  | _ :: _, _ :: _, h => .cons h.1.dp (dp_ofrs h.2)
theorem ShopAt.dp {K : PySem.W.Frag} {H : Hp} {a : Addr} {os : List Ofr} (h : ShopAt H a os) : Dp K H (.ref a) (dShop os) := by
  obtain ⟨vs, h1, al⟩ := h.al
  exact .lst (SqL.of h1) (dp_ofrs al)
theorem lay_tiers : ∀ ts : List (Int × Int), PyData.canLayAll0 (ts.map dTier) = true
  | [] => by simp [PyData.canLayAll0]
  | t :: r => by
    have ih := lay_tiers r
    simp [PyData.canLayAll0, PyData.canLay0, dTier, ih]
theorem depth_tiers : ∀ ts : List (Int × Int), PyData.depthAll (ts.map dTier) ≤ 1
  | [] => by simp [PyData.depthAll]
  | t :: r => by
    have ih := depth_tiers r
    simp only [List.map_cons, PyData.depthAll, PyData.depth, dTier]
    omega
theorem lay_ofr (o : Ofr) : PyData.canLay0 (dOfr o) = true := by
  cases o with
  | pack c p =>
    have := lay_ints c
    simp [dOfr, PyData.canLayAll0, PyData.canLay0, this]
    decide +kernel
  | many c ts =>
    have := lay_ints c
    have h2 := lay_tiers ts
    simp [dOfr, PyData.canLayAll0, PyData.canLay0, this, h2]
    decide +kernel
  | add c p k =>
    have := lay_ints c
    simp [dOfr, PyData.canLayAll0, PyData.canLay0, this]
    decide +kernel
theorem depth_ofr (o : Ofr) : PyData.depth (dOfr o) ≤ 4 := by
  cases o with
  | pack c p =>
    have := depth_ints c
    simp only [dOfr, PyData.depth, PyData.depthAll, this]
    omega
  | many c ts =>
    have := depth_ints c
    have h2 := depth_tiers ts
    simp only [dOfr, PyData.depth, PyData.depthAll, this]
    omega
  | add c p k =>
    have := depth_ints c
    simp only [dOfr, PyData.depth, PyData.depthAll, this]
    omega
theorem lay_ofrs : ∀ os : List Ofr, PyData.canLayAll0 (os.map dOfr) = true
  | [] => by simp [PyData.canLayAll0]
  | o :: r => by
    have ih := lay_ofrs r
    have h1 := lay_ofr o
    simp [PyData.canLayAll0, ih, h1]
theorem depth_ofrs : ∀ os : List Ofr, PyData.depthAll (os.map dOfr) ≤ 4
  | [] => by simp [PyData.depthAll]
  | o :: r => by
    have ih := depth_ofrs r
    have h1 := depth_ofr o
    simp only [List.map_cons, PyData.depthAll]
    omega
theorem shaped_shop (os : List Ofr) : SeqAt.shaped (dShop os) = true := by
  unfold SeqAt.shaped
  have h1 : PyData.canLay0 (dShop os) = true := by
    simp only [PyData.canLay0]
    exact lay_ofrs os
  have h2 : PyData.depth (dShop os) ≤ 64 := by
    have := depth_ofrs os
    simp only [PyData.depth]
    omega
  rw [h1, decide_eq_true h2]
  rfl
/-! ### data that can be shown -/
structure Sh (n : Nat) (d : PyData) : Prop where
  ok : d.showable = true
  nd : d.hasDict = false
  len : d.shown.length ≤ n
theorem Sh.mono {n m : Nat} {d : PyData} (h : Sh n d) (k : n ≤ m) : Sh m d := ⟨h.ok, h.nd, Nat.le_trans h.len k⟩
theorem Sh.int {i : Int} (h : i.natAbs < 10 ^ 12) : Sh 13 (.int i) := by
  refine ⟨?_, by simp [PyData.hasDict], PyData.shown_int_le h⟩
  simp only [PyData.showable, decide_eq_true_eq]
  refine log2_small (Nat.lt_trans h ?_)
  exact Nat.lt_trans (by decide : 10 ^ 12 < 2 ^ 64) (Nat.pow_lt_pow_right (by decide) (by decide))
theorem shw_all {n : Nat} : ∀ {xs : List PyData}, (∀ x ∈ xs, Sh n x) → PyData.showableAll xs = true ∧ PyData.hasDictAll xs = false ∧ ((PyData.shownAll xs).map (·.length)).sum ≤ n * xs.length
  | [], _ => ⟨by simp [PyData.showableAll], by simp [PyData.hasDictAll], by simp [PyData.shownAll]⟩
  | x :: r, h => by
    obtain ⟨h1, h2, h3⟩ := shw_all (xs := r) fun y hy => h y (List.mem_cons_of_mem _ hy)
    have hx := h x List.mem_cons_self
    refine ⟨by simp [PyData.showableAll, hx.ok, h1], by simp [PyData.hasDictAll, hx.nd, h2], ?_⟩
    rw [PyData.shownAll_cons, List.map_cons, List.sum_cons, List.length_cons, Nat.mul_add, Nat.mul_one]
    have := hx.len
    omega
theorem Sh.list {n : Nat} {xs : List PyData} (h : ∀ x ∈ xs, Sh n x) : Sh (n * xs.length + 2 * xs.length + 3) (.list xs) := by
  obtain ⟨h1, h2, h3⟩ := shw_all h
  refine ⟨by simp [PyData.showable, h1], by simp [PyData.hasDict, h2], ?_⟩
  have := listText_len_le (PyData.shownAll xs)
  rw [PyData.shownAll_length] at this
  show (PyData.list xs).shown.length ≤ _
  rw [PyData.shown_list, ← listText_eq_join]
  omega
theorem Sh.tuple {n : Nat} {xs : List PyData} (h : ∀ x ∈ xs, Sh n x) : Sh (n * xs.length + 2 * xs.length + 3) (.tuple xs) := by
  obtain ⟨h1, h2, h3⟩ := shw_all h
  refine ⟨by simp [PyData.showable, h1], by simp [PyData.hasDict, h2], ?_⟩
  have := tupleText_len_le (PyData.shownAll xs)
  rw [PyData.shownAll_length] at this
  have e : (PyData.tuple xs).shown = tupleText (PyData.shownAll xs) := by simp only [PyData.shown]
  rw [e]
  omega
theorem Sh.ints {m : Nat} {ns : List Int} (h : ∀ n ∈ ns, n.natAbs < 10 ^ 12) (hl : ns.length ≤ m) : Sh (15 * m + 3) (.list (ns.map PyData.int)) := by
  refine (Sh.list (n := 13) fun x hx => ?_).mono ?_
  · obtain ⟨n, hn, rfl⟩ := List.mem_map.mp hx
    exact Sh.int (h n hn)
  · rw [List.length_map]
    omega
theorem Sh.word {x : Str} (h : x = "pack" ∨ x = "many" ∨ x = "add") : Sh 13 (.str x) := by
  refine ⟨by simp [PyData.showable], by simp [PyData.hasDict], ?_⟩
  rw [PyData.shown_str]
  rcases h with rfl | rfl | rfl <;> decide +kernel
theorem Small.abs {ws : List Int} (h : Small ws) : ∀ n ∈ ws, n.natAbs < 10 ^ 12 := fun n hn => by
  have := h n hn
  omega
theorem sh_ofr {m : Nat} {os : List Ofr} {i : Nat} {o : Ofr} (h8 : os.length ≤ 8) (hm : m ≤ 4) (g : GoodO os i o) (f : FitO m o) (hi : i < 8) : Sh 1000 (dOfr o) := by
  have cts : ∀ {c : List Int}, c.length = m → Small c → Sh 200 (dInts c) := fun {c} hl sm => (Sh.ints (m := 4) sm.abs (by omega)).mono (by decide)
  have pr : ∀ {p : Int}, 0 ≤ p → p < 1000000000000 → Sh 200 (.int p) := fun {p} h0 h1 => (Sh.int (by omega)).mono (by decide)
  cases o with
  | pack c p =>
    obtain ⟨h1, h2, h3, h4⟩ := f
    refine (Sh.tuple (n := 200) fun x hx => ?_).mono (by show 200 * 3 + 2 * 3 + 3 ≤ 1000; decide)
    simp only [List.mem_cons, List.not_mem_nil, or_false] at hx
    rcases hx with rfl | rfl | rfl
    · exact (Sh.word (.inl rfl)).mono (by decide)
    · exact cts h1 h2
    · exact pr h3 h4
  | add c p k =>
    obtain ⟨h1, h2, h3, h4⟩ := f
    obtain ⟨j, ej, hj, _⟩ := g
    refine (Sh.tuple (n := 200) fun x hx => ?_).mono (by show 200 * 4 + 2 * 4 + 3 ≤ 1000; decide)
    simp only [List.mem_cons, List.not_mem_nil, or_false] at hx
    rcases hx with rfl | rfl | rfl | rfl
    · exact (Sh.word (.inr (.inr rfl))).mono (by decide)
    · exact cts h1 h2
    · exact pr h3 h4
    · exact pr (by omega) (by omega)
  | many c ts =>
    obtain ⟨h1, h2, h3⟩ := f
    have g' : GoodT ts := g
    have few := g'.few
    refine (Sh.tuple (n := 200) fun x hx => ?_).mono (by show 200 * 3 + 2 * 3 + 3 ≤ 1000; decide)
    simp only [List.mem_cons, List.not_mem_nil, or_false] at hx
    rcases hx with rfl | rfl | rfl
    · exact (Sh.word (.inr (.inl rfl))).mono (by decide)
    · exact cts h1 h2
    · refine (Sh.list (n := 40) fun x hx => ?_).mono ?_
      · obtain ⟨t, ht, rfl⟩ := List.mem_map.mp hx
        have p := h3 t ht
        have q := g'.most t ht
        have q1 := g'.ge1 t ht
        refine (Sh.tuple (n := 13) fun x hx => ?_).mono (by show 13 * 2 + 2 * 2 + 3 ≤ 40; decide)
        simp only [List.mem_cons, List.not_mem_nil, or_false] at hx
        rcases hx with rfl | rfl
        · exact Sh.int (by omega)
        · exact Sh.int (by omega)
      · rw [List.length_map]
        omega
theorem sh_shop {m : Nat} {os : List Ofr} (gd : Good os) (ft : FitS m os) (hm : m ≤ 4) : Sh 10000 (dShop os) := by
  have h8 := gd.1
  refine (Sh.list (n := 1000) fun x hx => ?_).mono ?_
  · obtain ⟨o, ho, rfl⟩ := List.mem_map.mp hx
    obtain ⟨i, hi, e⟩ := List.getElem_of_mem ho
    exact sh_ofr h8 hm (gd.2 i o (by rw [List.getElem?_eq_getElem hi, e])) (ft o ho) (by omega)
  · rw [List.length_map]
    omega
theorem LineOk.places8 {os : List Ofr} {l : Ln} (h8 : os.length ≤ 8) (h : LineOk os l) : (0 ≤ l.p ∧ l.p < 8 ∧ 1 ≤ l.c ∧ l.c ≤ 12) ∧ l.as.length ≤ 8 ∧ ∀ x ∈ l.as, 0 ≤ x ∧ x < 8 := by
  obtain ⟨p, ep, ways⟩ := h
  rcases ways with ⟨c, ts, w1, _, w2, w3, w4⟩ | ⟨c, pr, w1, w2, w3, w4⟩
  · have := (List.getElem?_eq_some_iff.mp w1).1
    exact ⟨⟨by omega, by omega, w2, w3⟩, by rw [w4]; decide, fun x hx => by rw [w4] at hx; cases hx⟩
  · have := (List.getElem?_eq_some_iff.mp w1).1
    refine ⟨⟨by omega, by omega, by omega, by omega⟩, w3, fun x hx => ?_⟩
    obtain ⟨j, rfl, _, _, _, hj⟩ := w4 x hx
    have := (List.getElem?_eq_some_iff.mp hj).1
    omega
theorem sh_line {os : List Ofr} {l : Ln} (h8 : os.length ≤ 8) (lk : LineOk os l) : Sh 1000 (dLine l) := by
  obtain ⟨h1, h2⟩ := lk.places8 h8
  refine (Sh.tuple (n := 200) fun x hx => ?_).mono (by show 200 * 3 + 2 * 3 + 3 ≤ 1000; decide)
  simp only [List.mem_cons, List.not_mem_nil, or_false] at hx
  rcases hx with rfl | rfl | rfl
  · exact (Sh.int (by omega)).mono (by decide)
  · exact (Sh.int (by omega)).mono (by decide)
  · exact (Sh.ints (m := 8) (fun n hn => by have := h2.2 n hn; omega) h2.1).mono (by decide)
/-! ### lines are in one order -/
theorem lt_line {a b : Ln} (h : lineLt a b) : PySem.W.dataLt (dLine a) (dLine b) = true := by
  unfold dLine
  rw [PySem.W.dataLt_tuple, PySem.W.dataLt_cons (by simp [PySem.W.alike]), PySem.W.dataLt_cons (by simp [PySem.W.alike]), PySem.W.dataLt_cons (by simp only [PySem.W.alike]; exact PySem.W.alike_ints _ _), PySem.W.dataLt_int, PySem.W.dataLt_int, PySem.W.dataLt_list]
  have e1 : ∀ x y : Int, PyData.eqv (.int x) (.int y) = decide (x = y) := fun x y => by
    rw [Bool.eq_iff_iff]
    simp [PyData.eqv]
  have e4 : PyProof.Rows.lexLt PyProof.Rows.itemOrd (PySem.W.keyToksAll (a.as.map PyData.int)) (PySem.W.keyToksAll (b.as.map PyData.int)) = decide (a.as < b.as) := PySem.W.dataLt_ints a.as b.as
  rw [e1, e1, eqv_ints, e4]
  rcases h with h | ⟨h1, h | ⟨h2, h3⟩⟩
  · rw [if_neg (by rw [decide_eq_true_eq]; omega), decide_eq_true h]
  · rw [if_pos (decide_eq_true h1), if_neg (by rw [decide_eq_true_eq]; omega), decide_eq_true h]
  · have ne : ¬ a.as = b.as := fun z => by rw [z] at h3; exact List.lt_irrefl _ h3
    rw [if_pos (decide_eq_true h1), if_pos (decide_eq_true h2), if_neg (by rw [decide_eq_true_eq]; exact ne), decide_eq_true h3]
theorem lineLt_tri (a b : Ln) : lineLt a b ∨ a = b ∨ lineLt b a := by
  unfold lineLt
  rcases Int.lt_trichotomy a.p b.p with h | h | h
  · exact .inl (.inl h)
  · rcases Int.lt_trichotomy a.c b.c with k | k | k
    · exact .inl (.inr ⟨h, .inl k⟩)
    · by_cases e : a.as = b.as
      · refine .inr (.inl ?_)
        obtain ⟨p, c, s⟩ := a
        obtain ⟨p', c', s'⟩ := b
        have h' : p = p' := h
        have k' : c = c' := k
        have e' : s = s' := e
        rw [h', k', e']
      · by_cases l : a.as < b.as
        · exact .inl (.inr ⟨h, .inr ⟨k, l⟩⟩)
        · refine .inr (.inr (.inr ⟨h.symm, .inr ⟨k.symm, ?_⟩⟩))
          have l' : b.as ≤ a.as := List.not_lt.mp l
          exact Classical.byContradiction fun z => e (List.le_antisymm (List.not_lt.mp z) l')
    · exact .inr (.inr (.inr ⟨h.symm, .inl k⟩))
  · exact .inr (.inr (.inl h))
theorem lineLt_trans {a b c : Ln} (h : lineLt a b) (k : lineLt b c) : lineLt a c := by
  unfold lineLt at *
  rcases h with h | ⟨h1, h⟩
  · rcases k with k | ⟨k1, _⟩
    · exact .inl (by omega)
    · exact .inl (by omega)
  · rcases k with k | ⟨k1, k⟩
    · exact .inl (by omega)
    · refine .inr ⟨by omega, ?_⟩
      rcases h with h | ⟨h2, h⟩
      · rcases k with k | ⟨k2, _⟩
        · exact .inl (by omega)
        · exact .inl (by omega)
      · rcases k with k | ⟨k2, k⟩
        · exact .inl (by omega)
        · exact .inr ⟨by omega, List.lt_trans h k⟩
theorem dataLe_line (a b : Ln) : PySem.W.dataLe false dLine a b = true ↔ ¬ lineLt b a := by
  show (!PySem.W.dataLt (dLine b) (dLine a)) = true ↔ _
  cases z : PySem.W.dataLt (dLine b) (dLine a) with
  | true => exact ⟨(fun h => by cases h), fun h => absurd (dataLt_line b a z) h⟩
  | false => exact ⟨(fun _ h => by rw [lt_line h] at z; cases z), fun _ => rfl⟩
theorem sorted_lines (ls : List Ln) : (ls.mergeSort (PySem.W.dataLe false dLine)).Pairwise fun a b => ¬ lineLt b a := by
  have h := List.pairwise_mergeSort (le := PySem.W.dataLe false dLine) (fun a b c h1 h2 => ?_) (fun a b => ?_) ls
  · exact h.imp fun {a b} z => (dataLe_line a b).mp z
  · rw [dataLe_line] at h1 h2 ⊢
    intro k
    rcases lineLt_tri a b with z | z | z
    · exact h2 (lineLt_trans k z)
    · rw [z] at k
      exact h2 k
    · exact h1 z
  · rw [Bool.or_eq_true, dataLe_line, dataLe_line]
    rcases lineLt_tri a b with z | z | z
    · exact .inl fun k => lineLt_asymm z k
    · exact .inl fun k => by rw [z] at k; exact lineLt_asymm k k
    · exact .inr fun k => lineLt_asymm z k
theorem perm_sumC {a b : List Rw} (h : a.Perm b) (i : Nat) : sumC a i = sumC b i := by
  induction h with
  | nil => rfl
  | cons x _ ih => rw [sumC_cons, sumC_cons, ih]
  | swap x y l => rw [sumC_cons, sumC_cons, sumC_cons, sumC_cons]; omega
  | trans _ _ h1 h2 => rw [h1, h2]
theorem perm_cost {a b : List Rw} (h : a.Perm b) : costM a = costM b := by
  induction h with
  | nil => rfl
  | cons x _ ih => rw [costM_cons, costM_cons, ih]
  | swap x y l => rw [costM_cons, costM_cons, costM_cons, costM_cons]; omega
  | trans _ _ h1 h2 => rw [h1, h2]
/-- places in a strict row -/
theorem strict_at {L : List Ln} (h : L.Pairwise lineLt) {i j : Nat} {a b : Ln} (ha : L[i]? = some a) (hb : L[j]? = some b) (n : ¬ lineLt b a) : i ≤ j := by
  rcases Nat.lt_or_ge j i with z | z
  · obtain ⟨h1, e1⟩ := List.getElem?_eq_some_iff.mp ha
    obtain ⟨h2, e2⟩ := List.getElem?_eq_some_iff.mp hb
    have := List.pairwise_iff_getElem.mp h j i h2 h1 z
    rw [e1, e2] at this
    exact absurd this n
  · exact z
/-! ### more rules at a written K -/
section
variable {X : Cx} {K : PySem.W.Frag}
theorem op_in_seqK (h : X.K = K) : OpR X (compareOp .In) (rIn K false) := by subst h; exact op_in_seq
theorem op_notIn_seqK (h : X.K = K) : OpR X (compareOp .NotIn) (rIn K true) := by subst h; exact op_notIn_seq
theorem mt_indexK (h : X.K = K) : MtR X "list.index" (rIndex K) := by subst h; exact mt_index
theorem pe_bmK {o e : Expr} {es : List Expr} {to : TE} {t : TA} {name : Str} {apos cpos : Pos} {T id : String} {r : V → List V → Hp → VK → Prop} (hK : X.K = K) (pa : PlainAttrs T) (slot : Slot T name id) (ty : typeOf (.builtin id) = pure (.type "method_descriptor")) (rule : MtR X id r) (ho : PE X o to) (ha : PA X (e :: es) t)
    (hbase : attributeBase o name X.env (eval o X.env) = eval o X.env := by rfl) (hfew : ((backTo cpos (starEach (e :: es) X.env)).all (fun x => !x.1) && (backToKw cpos (keywordEach [] X.env)).all (fun x => x.1.isSome) && decide ((e :: es).length + ([] : List Keyword).length + (if ([] : List Keyword).isEmpty then 0 else 1) < 30)) = true := by rfl)
    (hline : (apos.endLine == cpos.line) = true := by rfl) (hst : starEach (e :: es) X.env = (false, eval e X.env) :: starEach es X.env := by rfl) (hpl : (backTo cpos (starEach es X.env)).any (·.1) = false := by rfl) : PE X (.Call (.Attribute o name apos) (e :: es) [] cpos) (tBM K T r to t) := by
  subst hK
  exact pe_bm pa slot ty rule ho ha hbase hfew hline hst hpl
end
/-! ### what lines have together -/
def SumIs (m : Nat) (cs : List Int) (q : List Rw) : Prop := cs.length = m ∧ ∀ i, i < m → hadM cs i = sumC q i
theorem had_tog {a b : List Int} {i : Nat} (ha : i < a.length) (hb : i < b.length) : hadM (togM a b) i = hadM a i + hadM b i := by
  have := togM_get (hadM_in ha) (hadM_in hb)
  have h2 := hadM_in (cs := togM a b) (i := i) (by rw [togM_len]; omega)
  exact Option.some.inj (h2.symm.trans this)
theorem SumIs.snoc {m : Nat} {cs : List Int} {q : List Rw} {r : Rw} (h : SumIs m cs q) (hr : r.1.length = m) : SumIs m (togM cs r.1) (q ++ [r]) := by
  refine ⟨by rw [togM_len, h.1, hr]; exact Nat.min_self m, fun i hi => ?_⟩
  rw [had_tog (by rw [h.1]; exact hi) (by rw [hr]; exact hi), h.2 i hi, sumC_app, show sumC [r] i = hadM r.1 i by show hadM r.1 i + 0 = _; omega]
theorem SumIs.app {m : Nat} {a b : List Int} {q q' : List Rw} (h : SumIs m a q) (h' : SumIs m b q') : SumIs m (togM a b) (q ++ q') := by
  refine ⟨by rw [togM_len, h.1, h'.1]; exact Nat.min_self m, fun i hi => ?_⟩
  rw [had_tog (by rw [h.1]; exact hi) (by rw [h'.1]; exact hi), h.2 i hi, h'.2 i hi, sumC_app]
theorem SumIs.cov {m : Nat} {cs w : List Int} {q : List Rw} (h : SumIs m cs q) (hw : ∀ (i : Nat) (n : Int), w[i]? = some n → i < m ∧ n ≤ hadM cs i) : CovM q w := fun i n hn => by
  obtain ⟨h1, h2⟩ := hw i n hn
  rw [← h.2 i h1]
  exact h2
/-! ### dict comprehensions whose keys are tuples -/
section
variable {X : Cx} {pins : List (Addr × Obj)} {σ : L2.St} {H : Hp} {s : Shared}
theorem dT_set {E : Value → Shared → Prop} {D b : Addr} {kvs : List (List Key × V)} {k : List Key} {v : V} {r : Value} {Q : Unit → Shared → Prop} (hu : X.A.units < cLine) (I : Inv X pins σ H s) (e : H D = some (.dT kvs)) (eb : H b = some (.tup (k.map kV))) (l : kvs.length < sizeLine) (rv : RelV v r)
    (h : ∀ s', Inv X pins σ (upd H D (.dT (putK kvs k v))) s' → Q () s') : wpAny (model X.prog X.w) X.A (dictSet D (.ref b) r) Q E s := by
  obtain ⟨z, hd, xs, rel, dd⟩ := dt_of I.hok e
  have lx := Paired.length rel
  have lp := length_putK kvs k v
  refine wpAny_dictSet_heap (hsz := by omega) (show (tupleKind (mixKind X.prog X.w)).room X.A from hu) (key_of I.hok eb) dd fun h' dd' hs => h _ ?_
  obtain ⟨o, es, ep, e1, e2, e3, e4, _, e5⟩ := dd'
  have tups : ∀ c ys, H c = some (.tup ys) → upd H D (.dT (putK kvs k v)) c = some (.tup ys) := fun c ys ec => by
    rw [upd_ne (ne_of ec e (fun z => nomatch z))]
    exact ec
  exact d_write I (by rw [e]; exact True.intro) hs ⟨o, e1⟩ ⟨by omega, hd, _, (rel.put k eb rv).keeps tups, o, es, ep, e1, e2, e3, e4, e5⟩
/-- D: the new dict; W: what stands ahead of each of the L turns -/
def tDcT (wi : TI) (g : TG) (tk tv : TE) (vs : List Nat) : TE := fun σ H Q => wi σ H fun J H1 => ∀ D, H1 D = none → ∃ (L : Nat) (W : Nat → Hp → Prop), W 0 (upd H1 D (.dT [])) ∧ (∀ H, W L H → J.stop L H ∧ Q (.ref D) H) ∧
  ∀ i H, i < L → W i H → J.go i H ∧ ∀ x H', J.yld i H x H' → g x (wipe σ vs) H' fun σ2 H2 => wipe σ2 vs = wipe σ vs ∧ tk σ2 H2 fun y H3 => tv σ2 H3 fun z H4 =>
    ∃ kvs k b, y = .ref b ∧ H4 b = some (.tup (k.map kV)) ∧ H4 D = some (.dT kvs) ∧ kvs.length < sizeLine ∧ W (i + 1) (upd H4 D (.dT (putK kvs k z)))
theorem pe_dct {kx vx tg iter : Expr} {scope : Scope} {own : List (Str × Nat)} {pos : Pos} {wi : TI} {g : TG} {tk tv : TE} (hu : X.A.units < cLine) (hc : X.calm = true) (hN : X.N.Nodup) (hi : PI X tg iter wi) (ok : BlkOk X.N X.env.scope scope own)
    (hg : ∀ (s : Shared) (H : Hp) (C : Addr) (cl : List (Str × Addr)) (fp : List Addr), PG (X.blk s H scope (compEnvC scope cl C X.env) fp) tg g)
    (hk : ∀ (s : Shared) (H : Hp) (C : Addr) (cl : List (Str × Addr)) (fp : List Addr), PE (X.blk s H scope (compEnvC scope cl C X.env) fp) kx tk)
    (he : ∀ (s : Shared) (H : Hp) (C : Addr) (cl : List (Str × Addr)) (fp : List Addr), PE (X.blk s H scope (compEnvC scope cl C X.env) fp) vx tv) (hs : ∀ x, foldedSetIterable iter X.env x = pure x := by intro _; rfl) :
    PE X (.DictComp kx vx [⟨tg, iter, [], 0⟩] scope pos) (tDcT wi g tk tv (own.map (·.2))) := by
  refine ⟨fun pins s σ H Q I h => ?_⟩
  rw [arm_eval_DictComp]
  have hf : ∀ z ∈ scope.names, z.2 = .free → ∃ c, X.env.cells.lookup z.1 = some c := fun z hz e => (ok.free z hz e).elim (fun k => I.ok.has _ (.inl k)) fun k => I.ok.has _ (.inr k)
  refine wpAny_comprehension_free (use := none) rfl hs (closure_ok hf) ok.kind (fun y hy e => by rw [ok.uniq y hy, e]) (thn (hi.run pins s σ H _ I h) fun xv s1 hx => thn hx ?_)
  rintro itv s2 ⟨it, fp, tn, J, H2, rfl, I2, T, st2, f2, q⟩
  refine wpAny_newObj_type (newEnv_comp ?_)
  obtain ⟨L, W, w0, hst, hgo⟩ := q s2.heap.objs.size (I2.hok.fresh (Nat.le_refl _))
  have I3 : Inv X pins σ (upd H2 s2.heap.objs.size (.dT [])) { s2 with heap := s2.heap.push { cls := .type "dict", data := .dict #[] } } :=
    I2.laid (t' := s2.toks) (fun b o e => Heap.get?_push_of_some _ e) (Nat.le_refl _) (dt_empty s2.heap I2.big)
  have f3 : ∀ b ∈ fp, FpOk X pins (upd H2 s2.heap.objs.size (.dT [])) b ∧ b < (s2.heap.push { cls := .type "dict", data := .dict #[] }).objs.size := fun b hb => by
    obtain ⟨o, e, _⟩ := T.obj _ _ st2 b hb
    have lt := Heap.lt_size e
    refine ⟨⟨?_, (f2 b hb).2⟩, Heap.lt_size (Heap.get?_push_of_some _ e)⟩
    rw [upd_ne (Nat.ne_of_lt lt)]
    exact (f2 b hb).1
  generalize hD : s2.heap.objs.size = D at w0 hst hgo I3 f3 ⊢
  generalize hs3 : ({ s2 with heap := s2.heap.push { cls := .type "dict", data := .dict #[] } } : Shared) = s3 at I3 ⊢
  have e3 : s3.heap = s2.heap.push { cls := .type "dict", data := .dict #[] } := by rw [← hs3]
  rw [← e3] at f3
  have kp3 : ∀ b o, s2.heap.get? b = some o → s3.heap.get? b = some o := fun b o e => by rw [e3]; exact Heap.get?_push_of_some _ e
  have I4 := block_start I3 ok hN f3
  have pg := hg s3 (upd H2 D (.dT [])) s3.heap.objs.size (cellsFrom (s3.heap.objs.size + 1) scope.names (cloFrom X.env.cells scope.names [])) fp
  have pk := hk s3 (upd H2 D (.dT [])) s3.heap.objs.size (cellsFrom (s3.heap.objs.size + 1) scope.names (cloFrom X.env.cells scope.names [])) fp
  have pv := he s3 (upd H2 D (.dT [])) s3.heap.objs.size (cellsFrom (s3.heap.objs.size + 1) scope.names (cloFrom X.env.cells scope.names [])) fp
  have nf : ∀ b ∈ fp, (upd H2 D (.dT [])) b = none := fun b hb => (f3 b hb).1.1
  have cL : (compEnvC scope (cellsFrom (s3.heap.objs.size + 1) scope.names (cloFrom X.env.cells scope.names [])) s3.heap.objs.size X.env).locals = s3.heap.objs.size := rfl
  generalize hce : compEnvC scope (cellsFrom (s3.heap.objs.size + 1) scope.names (cloFrom X.env.cells scope.names [])) s3.heap.objs.size X.env = ce at I4 pg pk pv cL
  have st4 : tn 0 (pushCells (s3.heap.push { cls := .type "dict", data := .dict #[] }) scope.names) := T.keep _ _ _ st2 fun b _ o e => pushCells_keeps _ _ _ _ (Heap.get?_push_of_some _ (kp3 b o e))
  generalize upd H2 D (.dT []) = H3 at w0 I3 f3 I4 pg pk pv nf
  change codeAny _ _ (.compStart _ 0 (.ref it) (.ref D) (compEnvC scope (cellsFrom (s3.heap.objs.size + 1) scope.names (cloFrom X.env.cells scope.names [])) s3.heap.objs.size X.env)) _ ({ s3 with heap := pushCells (s3.heap.push { cls := .type "dict", data := .dict #[] }) scope.names } : Shared)
  rw [hce]
  generalize hs4 : ({ s3 with heap := pushCells (s3.heap.push { cls := .type "dict", data := .dict #[] }) scope.names } : Shared) = s4 at I4 ⊢
  have e4 : s4.heap = pushCells (s3.heap.push { cls := .type "dict", data := .dict #[] }) scope.names := by rw [← hs4]
  rw [← e4] at st4
  have foot : ∀ {σ' : L2.St} {H' : Hp} {s' : Shared}, Inv (X.blk s3 H3 scope ce fp) [] σ' H' s' → (∀ b ∈ fp, H' b = none) → ∀ b ∈ fp, FpOk (X.blk s3 H3 scope ce fp) [] H' b := fun {σ' H' s'} I' hn b hb =>
    ⟨hn b hb, (I'.ok.exf b hb).1, I'.ok.exfs b hb, .inl hb, (I'.ok.exf b hb).2, fun p hp => by
      have hp' : p ∈ ([] : List (Addr × Obj)) := hp
      cases hp'⟩
  have loop : codeAny (model X.prog X.w) X.A (.compLoop (.DictComp kx vx [⟨tg, iter, [], 0⟩] scope pos) 0 (.ref it) (.ref D) ce) (compPost (model X.prog X.w) X.A X.xe none (EP X pins σ Q) (.ref D) s3.heap.objs.size) s4 := by
    refine compLoop_anyD (fun n s' => ∃ i H', i + n = L ∧ Inv (X.blk s3 H3 scope ce fp) [] (wipe σ (own.map (·.2))) H' s' ∧ tn i s'.heap ∧ (∀ b ∈ fp, H' b = none) ∧ W i H') ?_ L ⟨0, H3, Nat.zero_add _, I4, st4, nf, w0⟩
    rintro n s5 ⟨i, H5, hin, I5, st5, n5, w5⟩
    cases n with
    | zero =>
      obtain rfl : i = L := by omega
      obtain ⟨stop, fin⟩ := hst H5 w5
      refine thnF (T.done (X.blk s3 H3 scope ce fp) rfl rfl rfl hc i [] s5 _ H5 (fun _ _ => False) I5 (foot I5 n5) st5 stop) ?_
      rintro r s6 ⟨rfl, I6⟩
      have I7 : Inv X pins σ H5 s6 := I3.call' (ch := fp) I6.os I6.base I6.hok I6.bare fun b hb => ⟨(f3 b hb).1.2.2.2.1, (f3 b hb).1.2.1, (f3 b hb).1.2.2.2.2.1, (f3 b hb).1.2.2.2.2.2⟩
      have nC : H5 s3.heap.objs.size = none := by
        rw [← cL]
        exact I6.free
      obtain ⟨m, hn, _⟩ := I6.loc
      have hn' : s6.heap.Ns s3.heap.objs.size m := by
        rw [← cL]
        exact hn
      obtain ⟨g0, g1, g2, g3, g4, g5⟩ := I3.fpOk (Nat.le_refl _) nC
      exact ⟨m, hn', fun h'' sb => ⟨.ref D, H5, I7.turned (t' := s6.toks) (fun b o hb e => (sb.2 b hb).trans e) g0 g1 g3 g4 g5, rfl, fin⟩⟩
    | succ n =>
      obtain ⟨go, step⟩ := hgo i H5 (by omega) w5
      refine thnF (T.item (X.blk s3 H3 scope ce fp) rfl rfl rfl hc i [] s5 _ H5 (fun _ _ => False) I5 (foot I5 n5) st5 go) ?_
      rintro r s6 ⟨u, rfl, h6⟩
      refine thnF h6 ?_
      rintro _ s7 ⟨x, H7, I7, r7, y7, st7, n7⟩
      refine thnF (pg.run _ s7 _ H7 x u _ (I7.pinned (foot I7 n7) (T.obj _ _ st7)) r7 (step x H7 y7)) ?_
      rintro _ s8 ⟨σ8, H8, I8, hw8, q8⟩
      refine wpAny_tests_nil ?_
      rw [if_pos rfl]
      refine thnF (pk.run _ s8 σ8 H8 _ I8 q8) ?_
      rintro yk s9 ⟨y, H9, I9, r9, q9⟩
      refine thnF (pv.run _ s9 σ8 H9 _ I9 q9) ?_
      rintro zv s10 ⟨z, H10, I10, r10, kvs, k, b, rfl, hb, hD10, hz, w'⟩
      obtain rfl : yk = Value.ref b := r9
      refine dT_set (X := X.blk s3 H3 scope ce fp) hu I10 hD10 hb hz r10 fun s11 I11 => ⟨n, Nat.lt_succ_self n, i + 1, _, by omega, ?_, ?_, fun b' hb' => ?_, w'⟩
      · refine (I11.unpinned (pins := [])).weak (by rw [← hw8, wipe_length]) fun j v e => ?_
        rw [← hw8] at e
        exact (wipe_some e).1
      · exact T.keep _ _ _ st7 fun b hb o e => (I11.pin (b, o) (List.mem_append_right _ (List.mem_append_right _ (mem_pinsAt hb e)))).1
      · obtain ⟨o, e, _⟩ := T.obj _ _ st7 b' hb'
        exact (I11.pin (b', o) (List.mem_append_right _ (List.mem_append_right _ (mem_pinsAt hb' e)))).2.1
  exact codeAny_compStart_dict loop (T.self X.A 0 _ _ _ st4 loop)
end
/-! ### holds -/
abbrev s_holds : Stmt := topS 27
abbrev N_holds : List Str := ["less", "number", "priced", "numbers", "line", "content", "price", "behind"]
theorem sc_holds : FnScope N_holds ["less", "number", "priced", "numbers"] (defScope s_holds) := ⟨rfl, rfl, rfl, by decide +kernel, rfl, by decide +kernel, by decide +kernel⟩

abbrev s_shows : Stmt := topS 28
abbrev N_shows : List Str := ["shop", "want", "table", "priced", "numbers", "start", "less", "number"]
theorem sc_shows : FnScope N_shows ["shop", "want", "table"] (defScope s_shows) := ⟨rfl, rfl, rfl, by decide +kernel, rfl, by decide +kernel, by decide +kernel⟩

abbrev NR := List Int × Option Int
def numAt : List NR → List Int → Option (Option Int)
  | [], _ => none
  | r :: rs, w => if r.1 = w then some r.2 else numAt rs w
def numD (rows : List NR) : List (List Key × V) := rows.map fun r => (keyW r.1, optV r.2)
theorem valV_num (w : List Int) : ∀ (rows : List NR), valV (numD rows) (keyW w) = (numAt rows w).map optV
  | [] => rfl
  | r :: rs => by
    show valV ((keyW r.1, optV r.2) :: numD rs) (keyW w) = _
    unfold numAt
    by_cases z : r.1 = w
    · rw [if_pos z, valV_pos (p := (keyW r.1, optV r.2)) (by rw [z])]
      rfl
    · rw [if_neg z, valV_neg (p := (keyW r.1, optV r.2)) (fun y => z (keyW_inj y))]
      exact valV_num w rs
theorem numAt_mem {w : List Int} : ∀ {rows : List NR}, w ∈ rows.map (·.1) → ∃ o, numAt rows w = some o
  | [], h => by cases h
  | r :: rs, h => by
    unfold numAt
    by_cases z : r.1 = w
    · exact ⟨_, if_pos z⟩
    · rw [if_neg z]
      exact numAt_mem ((List.mem_cons.mp h).resolve_left fun y => z y.symm)
theorem numAt_no {w : List Int} : ∀ {rows : List NR}, w ∉ rows.map (·.1) → numAt rows w = none
  | [], _ => rfl
  | r :: rs, h => by
    unfold numAt
    rw [if_neg fun y => h (by rw [← y]; exact List.mem_cons_self)]
    exact numAt_no fun y => h (List.mem_cons_of_mem _ y)
/-- a line bears the number of these wants out -/
def stepOk (rows : List NR) (w : List Int) (o : Option Int) (x : PR) : Bool :=
  match numAt rows (restM w x.2.1), o with
  | some (some b), some n => decide (n ≤ x.2.2 + b)
  | some (some _), none => false
  | _, _ => true
def holdsM (rows : List NR) (w : List Int) (o : Option Int) (xs : List PR) : Bool := xs.all (stepOk rows w o)
def sp_holds : Sp := fun vs H Q _ => ∃ (la pa d : Addr) (w : List Int) (o : Option Int) (as : List Addr) (xs : List PR) (rows : List NR), vs = [.ref la, optV o, .ref pa, .ref d] ∧ H la = some (LI w) ∧ H pa = some (.lst (as.map V.ref)) ∧ Al (PRowAt H) as xs ∧ H d = some (.dT (numD rows)) ∧ w.length ≤ 1000 ∧ (∀ x ∈ xs, restM w x.2.1 ∈ rows.map (·.1)) ∧
  ∀ H', Same H H' → Q (.bl (holdsM rows w o xs)) H'
section
variable {P : Program} {w : World} {K : PySem.W.Frag} {mg : Str → Option Value} {base : Heap} {T : List Addr}
theorem ok_holds {f f1 f2 : Addr} {fd fd1 fd2 : FuncData} {k : Nat} (M : Names mg) (D : Def K mg "holds" s_holds ["less", "number", "priced", "numbers"] f fd) (D_rest : Def K mg "rest" s_rest ["want", "content"] f1 fd1) (D_had : Def K mg "had" s_had ["content", "thing"] f2 fd2) : FnOk P w K mg base CX0 (k + 3) f fd ["less", "number", "priced", "numbers"] sp_holds := by
  have G_rest : FnOk P w K mg base CX0 (k + 2) f1 fd1 ["want", "content"] (sp_rest K) := ok_rest M D_rest D_had
  refine D.F.ok sc_holds (fun vs H Q E h => ?_) (fun cdv A outer s H vs Q E hr h => ?_)
  · obtain ⟨la, pa, d, w, o, as, xs, rows, rfl, _⟩ := h
    rfl
  · obtain ⟨la, pa, d, w, o, as, xs, rows, rfl, hla, hpa, al, hd, hwl, hin, q⟩ := h
    have lal := al.len
    refine ⟨_, (pss_cons (ps_for PassesOwn.never rfl (pi_list (pv 2)) (pg_tup rfl (pgs_cons (pg_name (i := 4) sc_holds.nd rfl (Or.inl rfl)) (pgs_cons (pg_name (i := 5) sc_holds.nd rfl (Or.inl rfl)) (pgs_cons (pg_name (i := 6) sc_holds.nd rfl (Or.inl rfl)) pgs_nil))))
   (pss_cons (ps_set (i := 7) sc_holds.nd rfl (Or.inl rfl) (pe_dget (hu_of hr) (pv 3) (pe_tupleOf (by rfl) M.tuple (pe_call G_rest hr (by rfl) D_rest.g D_rest.F.kp D_rest.b .nil pass0 (pa_cons (pv 0) (pa_cons (pv 5) pa_nil)))) (fun _ _ => rfl)))
  (pss_one (ps_if (PW.pt (pw_and (pt_cmpR op_notN (pv 7) pe_non (nomark _)) (pw_and1 (PW.pt (pw_or (pt_cmpR op_isN (pv 1) pe_non (nomark _)) (pw_or1 (pt_cmpR op_gt (pv 1) (pe_op op_add (pv 6) (pv 7)) (nomark _))))))))
   (pss_one (ps_ret pe_bl))
   pss_nil))))
  (pss_one (ps_ret pe_bl))), ?_⟩
    refine ⟨_, rfl, pa, rfl, ⟨_, SqL.of hpa⟩, for_list (K := K) (a := pa) (xs := as.map V.ref) (fun i σ H' => ∃ y4 y5 y6 y7 : Option V, σ = [some (.ref la), some (optV o), some (.ref pa), some (.ref d), y4, y5, y6, y7] ∧ Same H H' ∧ (xs.take i).all (stepOk rows w o) = true) ⟨none, none, none, none, rfl, fun _ _ e => e, rfl⟩ (fun i σ H' _ hp => ?_) (fun i x σ H1 hx hp => ?_) (fun σ H1 hp => ?_)⟩
    · obtain ⟨_, _, _, _, _, s1, _⟩ := hp
      exact SqL.of (s1 _ _ hpa)
    · obtain ⟨y4, y5, y6, y7, rfl, s1, ok⟩ := hp
      rw [List.getElem?_map] at hx
      cases hu : as[i]? with
      | none => rw [hu] at hx; cases hx
      | some u =>
        rw [hu] at hx
        cases Option.some.inj hx
        obtain ⟨x, hxx, lx, cx, hu1, hl1, hc1⟩ := al.get hu
        have etk : (xs.take (i + 1)).all (stepOk rows w o) = stepOk rows w o x := by
          rw [take_succ_at hxx, List.all_append, ok]
          simp
        refine ⟨u, _, rfl, SqT.of (s1 _ _ hu1), rfl, _, _, rfl, _, _, rfl, _, _, rfl, rfl, ?_⟩
        refine ⟨_, rfl, _, rfl, _, rfl, la, cx, w, x.2.1, rfl, SqL.of (s1 _ _ hla), SqL.of (s1 _ _ hc1), hwl, fun H2 r2 s2 nr2 hr2 => ?_⟩
        refine .inl ⟨r2, _, rfl, SqL.of hr2, fun t3 nt3 => ?_⟩
        have s3 := s2.trans (same_upd (o := .tup ((restM w x.2.1).map V.int)) nt3)
        have hd3 := s3 _ _ (s1 _ _ hd)
        have ht3 : upd H2 t3 (.tup ((restM w x.2.1).map V.int)) t3 = some (.tup ((keyW (restM w x.2.1)).map kV)) := by rw [upd_same, keyW_kV]
        generalize upd H2 t3 (.tup ((restM w x.2.1).map V.int)) = H3 at s3 hd3 ht3 ⊢
        have s13 := s1.trans s3
        obtain ⟨b, hb⟩ := numAt_mem (hin x (List.mem_of_getElem? hxx))
        have dg := DGet.t hd3 ht3
        rw [valV_num, hb] at dg
        refine ⟨d, _, rfl, dg, ?_⟩
        have bad : stepOk rows w o x = false → holdsM rows w o xs = false := fun z => by
          unfold holdsM
          rw [List.all_eq_false]
          exact ⟨x, List.mem_of_getElem? hxx, by rw [z]; exact Bool.false_ne_true⟩
        cases b with
        | none =>
          refine ⟨_, rfl, rfl, false, rfl, ?_⟩
          refine ⟨_, _, _, _, rfl, s13, ?_⟩
          rw [etk]
          unfold stepOk
          rw [hb]
        | some b =>
          refine ⟨_, rfl, rfl, true, rfl, ?_⟩
          cases o with
          | none =>
            refine ⟨_, rfl, rfl, true, rfl, ?_⟩
            have z : stepOk rows w none x = false := by unfold stepOk; rw [hb]
            have q1 := q H3 s13
            rw [bad z] at q1
            exact q1
          | some n =>
            refine ⟨_, rfl, rfl, false, rfl, ?_⟩
            refine ⟨_, rfl, _, rfl, _, rfl, _, _, rfl, rfl, _, _, rfl, rfl, _, rfl, ite2 (fun c => ?_) (fun c => ?_)⟩
            · have c' : x.2.2 + b < n := of_decide_eq_true c
              have z : stepOk rows w (some n) x = false := by
                unfold stepOk
                rw [hb]
                exact decide_eq_false (by omega)
              have q1 := q H3 s13
              rw [bad z] at q1
              exact q1
            · have c' : ¬ x.2.2 + b < n := fun z => c (decide_eq_true z)
              refine ⟨_, _, _, _, rfl, s13, ?_⟩
              rw [etk]
              unfold stepOk
              rw [hb]
              exact decide_eq_true (by omega)
    · obtain ⟨y4, y5, y6, y7, rfl, s1, ok⟩ := hp
      rw [List.length_map, lal, List.take_length] at ok
      have q1 := q H1 s1
      rw [show holdsM rows w o xs = true from ok] at q1
      exact q1
end
/-! ### shows -/
def TRowAt (H : Hp) (a : Addr) (x : TR) : Prop := H a = some (.tup [.ref x.1, optV x.2.2]) ∧ H x.1 = some (LI x.2.1)
theorem TRowAt.ke {H H' : Hp} (e : Ke H H') {a : Addr} {x : TR} (h : TRowAt H a x) : TRowAt H' a x := ⟨e.tup h.1, e.lst h.2⟩
def TabAt (H : Hp) (q : Addr) (xs : List TR) : Prop := ∃ rs : List Addr, H q = some (.lst (rs.map V.ref)) ∧ Al (TRowAt H) rs xs
theorem eqvAll_rows : ∀ a b : List (List Int), PyData.eqvAll (a.map fun r => .list (r.map PyData.int)) (b.map fun r => .list (r.map PyData.int)) = decide (a = b)
  | [], [] => by simp [PyData.eqvAll]
  | [], _ :: _ => by simp [PyData.eqvAll]
  | _ :: _, [] => by simp [PyData.eqvAll]
  | x :: a, y :: b => by
    have ih := eqvAll_rows a b
    have e := eqv_ints x y
    simp only [List.map_cons, PyData.eqvAll, e, ih]
    by_cases h1 : x = y <;> by_cases h2 : a = b <;> simp [h1, h2]
theorem eqv_rows (a b : List (List Int)) : PyData.eqv (dRows a) (dRows b) = decide (a = b) := by
  simp only [PyData.eqv]
  exact eqvAll_rows a b
theorem dp_lists {K : PySem.W.Frag} {H : Hp} : ∀ {as : List Addr} {rs : List (List Int)}, as.length = rs.length → (∀ (i : Nat) b r, as[i]? = some b → rs[i]? = some r → H b = some (LI r)) → DpAll K H (as.map V.ref) (rs.map fun r => .list (r.map PyData.int))
  | [], [], _, _ => .nil
  | [], _ :: _, e, _ => by cases e
  | _ :: _, [], e, _ => by cases e
  | a :: as, r :: rs, e, h => .cons (dp_ints (SqL.of (h 0 a r rfl rfl))) (dp_lists (by simpa using e) fun i b x hb hx => h (i + 1) b x hb hx)
def startOk (o : Option (Option Int)) : Bool := match o with
  | some (some n) => decide (n ≤ 0)
  | _ => false
def showsM (os : List Ofr) (ws : List Int) (rows : List NR) : Bool := decide (rows.map (·.1) = lesserF ws) && (startOk (numAt rows (List.replicate ws.length 0)) && rows.all fun r => holdsM rows r.1 r.2 (prowsM os))
def sp_shows (T : List Addr) : Sp := fun vs H Q _ => ∃ (a wa ta : Addr) (os : List Ofr) (ws : List Int) (xs : List TR), vs = [.ref a, .ref wa, .ref ta] ∧ ShopAt H a os ∧ Good os ∧ Fit os ∧ NN (shopRws os) ∧ Tb T H ∧ H wa = some (LI ws) ∧ ws.length ≤ 4 ∧ Small ws ∧ TabAt H ta xs ∧ xs.length ≤ 50000 ∧
  ∀ H', Ext T H H' → Q (.bl (showsM os ws (xs.map (·.2)))) H'
section
variable {P : Program} {w : World} {K : PySem.W.Frag} {mg : Str → Option Value} {base : Heap} {T : List Addr}
theorem ok_shows {f f1 f2 f3 c t : Addr} {fd fd1 fd2 fd3 : FuncData} {k : Nat} (M : Names mg) (D : Def K mg "shows" s_shows ["shop", "want", "table"] f fd) (D_priced_lines : Def K mg "priced_lines" s_priced_lines ["shop"] f1 fd1) (D_lesser : Def K mg "lesser" s_lesser ["want"] f2 fd2) (D_holds : Def K mg "holds" s_holds ["less", "number", "priced", "numbers"] f3 fd3)
    (G_priced_lines : FnOk P w K mg base CX0 (k + 2) f1 fd1 ["shop"] (sp_priced_lines T)) (G_lesser : FnOk P w K mg base CX0 (k + 2) f2 fd2 ["want"] (sp_lesser K)) (G_holds : FnOk P w K mg base CX0 (k + 1) f3 fd3 ["less", "number", "priced", "numbers"] sp_holds)
    (hc : fd.code = .ref c) (TB : GxR.TabB base mg c t) (ht : t ∈ T) : FnOk P w K mg base CX0 (k + 3) f fd ["shop", "want", "table"] (sp_shows T) := by
  refine okc D.F hc sc_shows (fun vs H Q E h => ?_) (fun cdv A outer s H vs Q E ec hr h => ?_)
  · obtain ⟨a, wa, ta, os, ws, xs, rfl, _⟩ := h
    rfl
  · obtain ⟨a, wa, ta, os, ws, xs, rfl, hS, gd, fit, nn, hT, hwa, h4, sm, ⟨rs, hta, al⟩, hxl, q⟩ := h
    have lrs := al.len
    refine ⟨_, (pss_cons (ps_set (i := 3) sc_shows.nd rfl (Or.inr rfl) (pe_call G_priced_lines hr (by rfl) D_priced_lines.g D_priced_lines.F.kp D_priced_lines.b .nil pass0 (pa_cons (pv 0) pa_nil)))
  (pss_cons (ps_if (pt_cmpR (op_neD hr.units) (pe_lc (own := [("less", 6), ("number", 7)]) (by rfl) sc_shows.nd (pi_list (pv 2)) (blkOk_by (own := [("less", 6), ("number", 7)]) (N := N_shows) (sc := defScope s_shows) (by decide +kernel)) (fun _ _ _ _ _ => (pg_tupK (K := K) (n := 2) rfl rfl (pgs_cons (pg_name (i := 6) sc_shows.nd rfl (Or.inl rfl)) (pgs_cons (pg_name (i := 7) sc_shows.nd rfl (Or.inl rfl)) pgs_nil)))) (fun _ _ _ _ _ => pts_nil) (fun _ _ _ _ _ => (pv 6))) (pe_call G_lesser hr (by rfl) D_lesser.g D_lesser.F.kp D_lesser.b .nil pass0 (pa_cons (pv 1) pa_nil)) (nomark _))
   (pss_one (ps_ret pe_bl))
   pss_nil)
  (pss_cons (ps_set (i := 4) sc_shows.nd rfl (Or.inr rfl) (pe_dct (own := [("less", 6), ("number", 7)]) hr.units0 (by rfl) sc_shows.nd (pi_list (pv 2)) (blkOk_by (own := [("less", 6), ("number", 7)]) (N := N_shows) (sc := defScope s_shows) (by decide +kernel)) (fun _ _ _ _ _ => (pg_tupK (K := K) (n := 2) rfl rfl (pgs_cons (pg_name (i := 6) sc_shows.nd rfl (Or.inl rfl)) (pgs_cons (pg_name (i := 7) sc_shows.nd rfl (Or.inl rfl)) pgs_nil)))) (fun _ _ _ _ _ => (pe_tupleOfK (K := K) rfl (by rfl) M.tuple (pv 6))) (fun _ _ _ _ _ => (pv 7))))
  (pss_cons (ps_set (i := 5) sc_shows.nd rfl (Or.inl rfl) (pe_dget1 (hu_of hr) (pv 4) (pe_tupleOf (by rfl) M.tuple (pe_op op_rep (pe_lst (pa_cons pe_int pa_nil)) (pe_callB call_len_seq (by rfl) M.len (by decide +kernel) (pa_cons (pv 1) pa_nil)))) ⟨rfl, rfl, rfl, rfl⟩))
  (pss_cons (ps_if (PW.pt (pw_or (pt_cmpR op_isN (pv 5) pe_non (nomark _)) (pw_or1 (pt_cmpR op_gt (pv 5) pe_int (nomark _)))))
   (pss_one (ps_ret pe_bl))
   pss_nil)
  (pss_one (ps_ret (pe_gAll (own := [("less", 6), ("number", 7)]) hr (by rfl) M.all (by decide +kernel) TB ec ⟨(blkOk_by (own := [("less", 6), ("number", 7)]) (N := N_shows) (sc := defScope s_shows) (by decide +kernel)), rfl, by decide +kernel, rfl⟩ sc_shows.nd (pi_list (pv 2)) (fun _ _ _ _ _ _ _ _ => (pg_tupK (K := K) (n := 2) rfl rfl (pgs_cons (pg_name (i := 6) sc_shows.nd rfl (Or.inl rfl)) (pgs_cons (pg_name (i := 7) sc_shows.nd rfl (Or.inl rfl)) pgs_nil)))) (fun _ _ _ _ _ _ _ _ hg => (pe_call G_holds hg (by rfl) D_holds.g D_holds.F.kp D_holds.b .nil pass0 (pa_cons (pv 6) (pa_cons (pv 7) (pa_cons (pv 3) (pa_cons (pv 4) pa_nil)))))))))))))), ?_⟩
    refine ⟨_, rfl, a, os, rfl, hS, gd, fit, hT, fun H1 pa e1 npa hpr => ?_⟩
    obtain ⟨as, hpa, alp⟩ := hpr
    have alp1 : Al (PRowAt H1) as (prowsM os) := alp.imp fun r x h => h.at
    have hta1 := e1.lst hta
    have al1 : Al (TRowAt H1) rs xs := al.imp fun r x h => ⟨e1.tup h.1, e1.lst h.2⟩
    refine ⟨_, rfl, ta, rfl, ⟨_, SqL.of hta1⟩, fun B nB => lc_list (xs := rs.map V.ref) (fun i H' => Same H1 H' ∧ H' B = some (.lst ((xs.take i).map fun x => V.ref x.1))) ⟨same_upd nB, upd_same⟩ (fun i H' _ hp => SqL.of (hp.1 _ _ hta1)) (fun i x H2 hx hp => ?_) (fun H2 hp => ?_)⟩
    · obtain ⟨s2, hB⟩ := hp
      rw [List.getElem?_map] at hx
      cases hu : rs[i]? with
      | none => rw [hu] at hx; cases hx
      | some u =>
        rw [hu] at hx
        cases Option.some.inj hx
        obtain ⟨x, hxx, hr1, hl1⟩ := al1.get hu
        have hi := (List.getElem?_eq_some_iff.mp hu).1
        refine ⟨u, _, rfl, SqT.of (s2 _ _ hr1), rfl, _, _, rfl, _, _, rfl, rfl, rfl, _, rfl, _, hB, szL' (by rw [List.length_map, List.length_take]; omega), sm_new s2 nB, ?_⟩
        rw [upd_same, take_succ_at hxx, List.map_append]
        rfl
    · obtain ⟨s2, hB⟩ := hp
      rw [List.length_map, lrs, List.take_length] at hB
      refine ⟨_, rfl, wa, ws, rfl, SqL.of (s2 _ _ (e1.lst hwa)), h4, sm, fun H3 lp s3 nlp ⟨bs, hlp, lbs, ndb, hbs⟩ => ?_⟩
      have s13 := s2.trans s3
      have dpB : Dp K H3 (.ref B) (dRows (xs.map (·.2.1))) := by
        refine .lst (SqL.of (s3 _ _ hB)) ?_
        have z := dp_lists (K := K) (H := H3) (as := xs.map (·.1)) (rs := xs.map (·.2.1)) (by rw [List.length_map, List.length_map]) fun i b r hb hr => by
          rw [List.getElem?_map] at hb hr
          cases hx : xs[i]? with
          | none => rw [hx] at hb; cases hb
          | some x =>
            rw [hx] at hb hr
            cases Option.some.inj hb
            cases Option.some.inj hr
            have hi := (List.getElem?_eq_some_iff.mp hx).1
            obtain ⟨x', hx', _, hl1⟩ := al1.get (List.getElem?_eq_getElem (l := rs) (i := i) (by omega))
            rw [hx] at hx'
            cases Option.some.inj hx'
            exact s13 _ _ hl1
        rw [List.map_map] at z
        exact z
      have dpL : Dp K H3 (.ref lp) (dRows (lesserF ws)) := .lst (SqL.of hlp) (dp_lists lbs fun i b r hb hr => (hbs i b r hb hr).2.2)
      have e3 : Ext T H H3 := e1.trans (.same s13 e1.t1)
      have efst : (xs.map (·.2)).map (·.1) = xs.map (·.2.1) := by rw [List.map_map]; rfl
      refine ⟨_, _, dpB, dpL, shaped_rows _, shaped_rows _, _, rfl, ite2 (fun c => ?_) (fun c => ?_)⟩
      · have hne : ¬ xs.map (·.2.1) = lesserF ws := fun z => by
          rw [eqv_rows, decide_eq_true z] at c
          cases c
        have q1 := q H3 e3
        unfold showsM at q1
        rw [efst, decide_eq_false hne] at q1
        exact q1
      · have heq : xs.map (·.2.1) = lesserF ws := Classical.byContradiction fun z => c (by rw [eqv_rows, decide_eq_false z]; rfl)
        have nd : (xs.map (·.2.1)).Nodup := by rw [heq]; exact lesserF_nodup ws
        have hta3 := s13 _ _ hta1
        have al3 : Al (TRowAt H3) rs xs := al1.imp fun r x h => h.ke (.of s13)
        refine ⟨_, rfl, ta, rfl, ⟨_, SqL.of hta3⟩, fun Dd nD => ⟨xs.length, fun i H' => Same H3 H' ∧ H' Dd = some (.dT (numD ((xs.take i).map (·.2)))), ⟨same_upd nD, upd_same⟩, fun H4 hp => ?_, fun i H4 hi hp => ?_⟩⟩
        · obtain ⟨s4, hD4⟩ := hp
          rw [List.take_length] at hD4
          refine ⟨⟨_, SqL.of (s4 _ _ hta3), by rw [List.length_map, lrs]; exact Nat.le_refl _⟩, ?_⟩
          have s14 := s13.trans s4
          have e4 : Ext T H H4 := e1.trans (.same s14 e1.t1)
          generalize hrows : xs.map (·.2) = rows at hD4 q efst
          -- start
          refine ⟨_, rfl, Dd, rfl, .inr ⟨_, .inl hD4⟩, ?_⟩
          refine ⟨by show 1 ≤ sizeLine; decide, fun z nz => ?_⟩
          have s5 := same_upd (o := .lst [.int 0]) nz
          have hz5 : upd H4 z (.lst [.int 0]) z = some (.lst [.int 0]) := upd_same
          generalize upd H4 z (.lst [.int 0]) = H5 at s5 hz5 ⊢
          refine ⟨_, rfl, wa, _, rfl, .inl (SqL.of (s5 _ _ (s14 _ _ (e1.lst hwa)))), z, _, _, rfl, rfl, hz5, by omega, by rw [List.length_map]; omega, szL (by rw [List.length_map, Int.toNat_natCast]; show 1 * _ ≤ 100000; omega), fun y ny => ?_⟩
          have ey : (List.replicate (((ws.map V.int).length : Nat) : Int).toNat [V.int 0]).flatten = (List.replicate ws.length (0 : Int)).map V.int := by
            rw [Int.toNat_natCast, List.length_map, List.map_replicate]
            generalize ws.length = n
            induction n with
            | zero => rfl
            | succ n ih => rw [List.replicate_succ, List.flatten_cons, ih, List.replicate_succ]; rfl
          rw [ey]
          have s6 := s5.trans (same_upd (o := LI (List.replicate ws.length 0)) ny)
          have hy6 : upd H5 y (LI (List.replicate ws.length 0)) y = some (LI (List.replicate ws.length 0)) := upd_same
          refine .inl ⟨y, _, rfl, SqL.of hy6, fun t7 nt7 => ?_⟩
          have s7 := s6.trans (same_upd (o := .tup ((List.replicate ws.length (0 : Int)).map V.int)) nt7)
          have ht7 : upd (upd H5 y (LI (List.replicate ws.length 0))) t7 (.tup ((List.replicate ws.length (0 : Int)).map V.int)) t7 = some (.tup ((keyW (List.replicate ws.length 0)).map kV)) := by rw [upd_same, keyW_kV]
          change ∃ o, DGet (upd (upd H5 y (LI (List.replicate ws.length 0))) t7 (.tup ((List.replicate ws.length (0 : Int)).map V.int))) _ _ o ∧ _
          generalize upd (upd H5 y (LI (List.replicate ws.length 0))) t7 (.tup ((List.replicate ws.length (0 : Int)).map V.int)) = H7 at s7 ht7 ⊢
          have dg := DGet.t (s7 _ _ hD4) ht7
          rw [valV_num] at dg
          refine ⟨_, dg, ?_⟩
          have s17 := s14.trans s7
          have e7 : Ext T H H7 := e1.trans (.same s17 e1.t1)
          have no : startOk (numAt rows (List.replicate ws.length 0)) = false → Q (.bl false) H7 := fun z => by
            have q1 := q H7 e7
            unfold showsM at q1
            rw [z, Bool.false_and, Bool.and_false] at q1
            exact q1
          cases hn : numAt rows (List.replicate ws.length 0) with
          | none =>
            refine ⟨_, rfl, rfl, true, rfl, ?_⟩
            exact no (by rw [hn]; rfl)
          | some o =>
            cases o with
            | none =>
              refine ⟨_, rfl, rfl, true, rfl, ?_⟩
              exact no (by rw [hn]; rfl)
            | some n =>
              refine ⟨_, rfl, rfl, false, rfl, ?_⟩
              refine ⟨_, rfl, _, _, rfl, rfl, _, rfl, ite2 (fun c => ?_) (fun c => ?_)⟩
              · have c' : 0 < n := of_decide_eq_true c
                exact no (by rw [hn]; exact decide_eq_false (by omega))
              · have c' : ¬ 0 < n := fun z => c (decide_eq_true z)
                have go : startOk (numAt rows (List.replicate ws.length 0)) = true := by rw [hn]; exact decide_eq_true (by omega)
                have eall : showsM os ws rows = rows.all fun r => holdsM rows r.1 r.2 (prowsM os) := by
                  unfold showsM
                  rw [go, efst, decide_eq_true heq, Bool.true_and, Bool.true_and]
                rw [eall] at q
                have hta7 := s7 _ _ (s4 _ _ hta3)
                refine ⟨_, rfl, ta, rfl, ⟨_, SqL.of hta7⟩, e7.t1 t ht, fun H8 tb8 => ?_⟩
                have e78 : Ext T H7 H8 := .tabbed e7.t1 tb8 ht
                have hta8 := e78.lst hta7
                have al8 : Al (TRowAt H8) rs xs := al3.imp fun r x h => ⟨e78.tup (s7 _ _ (s4 _ _ h.1)), e78.lst (s7 _ _ (s4 _ _ h.2))⟩
                have hpa8 := e78.lst (s17 _ _ hpa)
                have alp8 : Al (PRowAt H8) as (prowsM os) := alp1.imp fun r x h => PRowAt.ke e78.ke (h.ke (.of s17))
                have hD8 : H8 Dd = some (.dT (numD rows)) := e78.ext _ _ (s7 _ _ hD4) fun _ z => nomatch z
                refine ⟨xs.length, fun i H' => Same H8 H' ∧ (rows.take i).all (fun r => holdsM rows r.1 r.2 (prowsM os)) = true, fun i y H' => Same H8 H' ∧ ∃ r, rows[i]? = some r ∧ (rows.take i).all (fun r => holdsM rows r.1 r.2 (prowsM os)) = true ∧ y = .bl (holdsM rows r.1 r.2 (prowsM os)), ⟨fun _ _ z => z, rfl⟩, fun H9 hp => ?_, fun i H9 hi hp => ?_, fun H9 hp => ?_, fun i y H9 hp => ?_⟩
                · exact ⟨_, SqL.of (hp.1 _ _ hta8), by rw [List.length_map, lrs]; exact Nat.le_refl _⟩
                · obtain ⟨s9, ok⟩ := hp
                  have hu : rs[i]? = some (rs[i]'(by omega)) := List.getElem?_eq_getElem (by omega)
                  generalize rs[i]'(by omega) = u at hu
                  obtain ⟨x, hxx, hr1, hl1⟩ := al8.get hu
                  have xm : x.2.1 ∈ lesserF ws := by
                    rw [← heq]
                    exact List.mem_map.mpr ⟨x, List.mem_of_getElem? hxx, rfl⟩
                  refine ⟨⟨_, .ref u, SqL.of (s9 _ _ hta8), by rw [List.getElem?_map, hu]; rfl⟩, fun v H10 hy => ?_⟩
                  obtain ⟨e10, hy⟩ := hy
                  subst e10
                  have ev := hy _ (SqL.of (s9 _ _ hta8))
                  rw [List.getElem?_map, hu] at ev
                  cases Option.some.inj ev
                  refine ⟨u, _, rfl, SqT.of (s9 _ _ hr1), rfl, _, _, rfl, _, _, rfl, rfl, rfl, _, rfl, _, rfl, _, rfl, _, rfl, x.1, pa, Dd, x.2.1, x.2.2, as, prowsM os, rows, rfl, s9 _ _ hl1, s9 _ _ hpa8, alp8.imp fun r x h => h.ke (.of s9), s9 _ _ hD8, by rw [lesserF_len xm]; omega, fun y hy => ?_, fun H11 s11 => ⟨s9.trans s11, x.2, ?_, ok, rfl⟩⟩
                  · rw [efst, heq]
                    exact lesserF_mem.mpr ((rest_le (c := y.2.1) (lesserF_mem.mp xm).nonneg (nn y.2 (List.mem_map.mpr ⟨y, hy, rfl⟩)).1).1.trans (lesserF_mem.mp xm))
                  · rw [← hrows, List.getElem?_map, hxx]
                    rfl
                · obtain ⟨s9, ok⟩ := hp
                  have q1 := q H9 (e7.trans (e78.trans (.same s9 e78.t1)))
                  rw [List.take_of_length_le (by rw [← hrows, List.length_map]; exact Nat.le_refl _)] at ok
                  rw [ok] at q1
                  exact q1
                · obtain ⟨s9, r, hr1, ok, rfl⟩ := hp
                  refine ⟨_, rfl, ?_⟩
                  cases hb : holdsM rows r.1 r.2 (prowsM os) with
                  | true =>
                    refine ⟨s9, ?_⟩
                    rw [take_succ_at hr1, List.all_append, ok]
                    simp [hb]
                  | false =>
                    have q1 := q H9 (e7.trans (e78.trans (.same s9 e78.t1)))
                    rw [List.all_eq_false.mpr ⟨r, List.mem_of_getElem? hr1, by rw [hb]; exact Bool.false_ne_true⟩] at q1
                    exact q1
        · obtain ⟨s4, hD4⟩ := hp
          have hu : rs[i]? = some (rs[i]'(by omega)) := List.getElem?_eq_getElem (by omega)
          generalize rs[i]'(by omega) = u at hu
          obtain ⟨x, hxx, hr1, hl1⟩ := al3.get hu
          refine ⟨⟨_, .ref u, SqL.of (s4 _ _ hta3), by rw [List.getElem?_map, hu]; rfl⟩, fun v H5 hy => ?_⟩
          obtain ⟨e5, hy⟩ := hy
          subst e5
          have ev := hy _ (SqL.of (s4 _ _ hta3))
          rw [List.getElem?_map, hu] at ev
          cases Option.some.inj ev
          refine ⟨u, _, rfl, SqT.of (s4 _ _ hr1), rfl, _, _, rfl, _, _, rfl, rfl, rfl, _, rfl, .inl ⟨x.1, _, rfl, SqL.of (s4 _ _ hl1), fun t6 nt6 => ?_⟩⟩
          have s6 := same_upd (o := .tup (x.2.1.map V.int)) nt6
          refine ⟨_, rfl, _, keyW x.2.1, t6, rfl, by rw [upd_same, keyW_kV], s6 _ _ hD4, szL' (by unfold numD; rw [List.length_map, List.length_map, List.length_take]; omega), sm_new (s4.trans s6) nD, ?_⟩
          have hno : valV (numD ((xs.take i).map (·.2))) (keyW x.2.1) = none := by
            rw [valV_num, numAt_no]
            · rfl
            · rw [List.map_map]
              have z : (xs.take i).map ((·.1) ∘ (·.2)) = (lesserF ws).take i := by
                rw [← heq, List.map_take]
                rfl
              rw [z]
              exact lesser_not_before (by rw [← heq, List.getElem?_map, hxx]; rfl)
          rw [upd_same, putK_new _ hno, take_succ_at hxx, List.map_append]
          unfold numD
          rw [List.map_append]
          rfl
end
/-! ### _law_shows -/
abbrev s_law_shows : Stmt := topS 45
abbrev N_law_shows : List Str := ["_law_shop_here", "_law_want_here", "_law_table", "_law_wants", "_law_numbers", "_law_less_here", "_law_number", "_law_line", "_law_content_here", "_law_price_here", "_law_here", "_law_there", "_law_row"]
theorem sc_law_shows : FnScope N_law_shows ["_law_shop_here", "_law_want_here", "_law_table"] (defScope s_law_shows) := ⟨rfl, rfl, rfl, by decide +kernel, rfl, by decide +kernel, by decide +kernel⟩

theorem numAt_at : ∀ {rows : List NR} {j : Nat} {r : NR}, (rows.map (·.1)).Nodup → rows[j]? = some r → numAt rows r.1 = some r.2
  | [], _, _, _, h => by simp at h
  | x :: rs, 0, r, _, h => by
    cases Option.some.inj h
    unfold numAt
    rw [if_pos rfl]
  | x :: rs, j + 1, r, nd, h => by
    have h' : rs[j]? = some r := h
    rw [List.map_cons, List.nodup_cons] at nd
    unfold numAt
    rw [if_neg fun z => nd.1 (by rw [z]; exact List.mem_map.mpr ⟨r, List.mem_of_getElem? h', rfl⟩)]
    exact numAt_at nd.2 h'
theorem all_swap {α β : Type} (p : α → β → Bool) (xs : List α) (ys : List β) : (xs.all fun x => ys.all fun y => p x y) = ys.all fun y => xs.all fun x => p x y := by
  rw [Bool.eq_iff_iff]
  simp only [List.all_eq_true]
  exact ⟨fun h y hy x hx => h x hx y hy, fun h x hx y hy => h y hy x hx⟩
def colOk (rows : List NR) (x : PR) : Bool := rows.all fun r => stepOk rows r.1 r.2 x
def sp_lshows : Sp := fun vs H Q _ => ∃ (a wa ta d : Addr) (os : List Ofr) (ws : List Int) (xs : List TR) (ds : List V) (m : Nat), vs = [.ref a, .ref wa, .ref ta] ∧ H d = some (.lst ds) ∧ ShopAt (cutH d H) a os ∧ Good os ∧ FitS m os ∧ H wa = some (LI ws) ∧ ws.length = m ∧ m ≤ 4 ∧ Small ws ∧ TabAt H ta xs ∧ xs.length ≤ 50000 ∧
  ∀ H', Same H H' → Q (.bl (showsM os ws (xs.map (·.2)))) H'
section
variable {P : Program} {w : World} {K : PySem.W.Frag} {mg : Str → Option Value} {base : Heap}
theorem ok_lshows {f f1 f2 f3 f4 f5 : Addr} {fd fd1 fd2 fd3 fd4 fd5 : FuncData} {k : Nat} (M : Names mg) (D : Def K mg "_law_shows" s_law_shows ["_law_shop_here", "_law_want_here", "_law_table"] f fd) (D_law_lines : Def K mg "_law_lines" s_law_lines ["_law_shop_here"] f1 fd1) (D_law_groups : Def K mg "_law_groups" s_law_groups ["_law_places"] f2 fd2) (D_law_sum : Def K mg "_law_sum" s_law_sum ["_law_one", "_law_other"] f3 fd3) (D_law_lesser : Def K mg "_law_lesser" s_law_lesser ["_law_want_here"] f4 fd4) (D_law_rest : Def K mg "_law_rest" s_law_rest ["_law_want_here", "_law_content_here"] f5 fd5) : FnOk P w K mg base CX0 (k + 3) f fd ["_law_shop_here", "_law_want_here", "_law_table"] sp_lshows := by
  have G_law_lines : FnOk P w K mg base CX0 (k + 2) f1 fd1 ["_law_shop_here"] sp_wares := ok_wares M D_law_lines D_law_groups D_law_sum
  have G_law_lesser : FnOk P w K mg base CX0 (k + 2) f4 fd4 ["_law_want_here"] (sp_lesser K) := ok_llesser M D_law_lesser
  have G_law_rest : FnOk P w K mg base CX0 (k + 2) f5 fd5 ["_law_want_here", "_law_content_here"] sp_lrest := ok_lrest M D_law_rest
  refine D.F.ok sc_law_shows (fun vs H Q E h => ?_) (fun cdv A outer s H vs Q E hr h => ?_)
  · obtain ⟨a, wa, ta, d, os, ws, xs, ds, m, rfl, _⟩ := h
    rfl
  · obtain ⟨a, wa, ta, d, os, ws, xs, ds, m, rfl, hd, hS, gd, ft, hwa, hlw, hm4, sm, ⟨rs, hta, al⟩, hxl, q⟩ := h
    have nn := rws_nn gd ft
    have clen : ∀ x ∈ prowsM os, x.2.1.length = m := fun x hx => by
      obtain ⟨l, hl, rfl⟩ := List.mem_map.mp hx
      exact (cont_v0 ft (lines_ok gd hl)).1
    have lrs := al.len
    refine ⟨_, (pss_cons (ps_set (i := 3) sc_law_shows.nd rfl (Or.inl rfl) (pe_call G_law_lesser hr (by rfl) D_law_lesser.g D_law_lesser.F.kp D_law_lesser.b .nil pass0 (pa_cons (pv 1) pa_nil)))
  (pss_cons (ps_if (pt_cmpR (op_neD hr.units) (pe_lc (own := [("_law_row", 12)]) (by rfl) sc_law_shows.nd (pi_list (pv 2)) (blkOk_by (own := [("_law_row", 12)]) (N := N_law_shows) (sc := defScope s_law_shows) (by decide +kernel)) (fun _ _ _ _ _ => (pg_name (i := 12) sc_law_shows.nd rfl (Or.inl rfl))) (fun _ _ _ _ _ => pts_nil) (fun _ _ _ _ _ => (pe_ix (ix_tupK (K := K) rfl) (pv 12) pe_int (fun _ _ => rfl)))) (pv 3) (nomark _))
   (pss_one (ps_ret pe_bl))
   pss_nil)
  (pss_cons (ps_set (i := 4) sc_law_shows.nd rfl (Or.inl rfl) pe_dnewT)
  (pss_cons (ps_for PassesOwn.never rfl (pi_list (pv 2)) (pg_tup rfl (pgs_cons (pg_name (i := 5) sc_law_shows.nd rfl (Or.inl rfl)) (pgs_cons (pg_name (i := 6) sc_law_shows.nd rfl (Or.inl rfl)) pgs_nil)))
   (pss_one (ps_dput (hu_of hr) (pv 4) (pe_tupleOf (by rfl) M.tuple (pv 5)) (pv 6) rfl)))
  (pss_cons (ps_if (PW.pt (pw_or (pt_cmpR op_isN (pe_ix ix_tup (pe_ix ix_list (pv 2) pe_int (fun _ _ => rfl)) pe_int (fun _ _ => rfl)) pe_non (nomark _)) (pw_or1 (pt_cmpR op_gt (pe_ix ix_tup (pe_ix ix_list (pv 2) pe_int (fun _ _ => rfl)) pe_int (fun _ _ => rfl)) pe_int (nomark _)))))
   (pss_one (ps_ret pe_bl))
   pss_nil)
  (pss_cons (ps_for PassesOwn.never rfl (pi_list (pe_call G_law_lines hr (by rfl) D_law_lines.g D_law_lines.F.kp D_law_lines.b .nil pass0 (pa_cons (pv 0) pa_nil))) (pg_tup rfl (pgs_cons (pg_name (i := 7) sc_law_shows.nd rfl (Or.inl rfl)) (pgs_cons (pg_name (i := 8) sc_law_shows.nd rfl (Or.inl rfl)) (pgs_cons (pg_name (i := 9) sc_law_shows.nd rfl (Or.inl rfl)) pgs_nil))))
   (pss_one (ps_for PassesOwn.never rfl (pi_list (pv 3)) (pg_name (i := 5) sc_law_shows.nd rfl (Or.inl rfl))
   (pss_cons (ps_set (i := 10) sc_law_shows.nd rfl (Or.inl rfl) (pe_dget (hu_of hr) (pv 4) (pe_tupleOf (by rfl) M.tuple (pv 5)) (fun _ _ => rfl)))
  (pss_cons (ps_set (i := 11) sc_law_shows.nd rfl (Or.inl rfl) (pe_dget (hu_of hr) (pv 4) (pe_tupleOf (by rfl) M.tuple (pe_call G_law_rest hr (by rfl) D_law_rest.g D_law_rest.F.kp D_law_rest.b .nil pass0 (pa_cons (pv 5) (pa_cons (pv 8) pa_nil)))) (fun _ _ => rfl)))
  (pss_one (ps_if (PW.pt (pw_and (pt_cmpR op_notN (pv 11) pe_non (nomark _)) (pw_and1 (PW.pt (pw_or (pt_cmpR op_isN (pv 10) pe_non (nomark _)) (pw_or1 (pt_cmpR op_gt (pv 10) (pe_op op_add (pv 9) (pv 11)) (nomark _))))))))
   (pss_one (ps_ret pe_bl))
   pss_nil)))))))
  (pss_one (ps_ret pe_bl)))))))), ?_⟩
    refine ⟨_, rfl, wa, ws, rfl, SqL.of hwa, by omega, sm, fun H1 lp s1 nlp ⟨bs, hlp, lbs, ndb, hbs⟩ => ?_⟩
    have hta1 := s1 _ _ hta
    have al1 : Al (TRowAt H1) rs xs := al.imp fun r x h => h.ke (.of s1)
    refine ⟨_, rfl, ta, rfl, ⟨_, SqL.of hta1⟩, fun B nB => lc_list (xs := rs.map V.ref) (fun i H' => Same H1 H' ∧ H' B = some (.lst ((xs.take i).map fun x => V.ref x.1))) ⟨same_upd nB, upd_same⟩ (fun i H' _ hp => SqL.of (hp.1 _ _ hta1)) (fun i x H2 hx hp => ?_) (fun H2 hp => ?_)⟩
    · obtain ⟨s2, hB⟩ := hp
      rw [List.getElem?_map] at hx
      cases hu : rs[i]? with
      | none => rw [hu] at hx; cases hx
      | some u =>
        rw [hu] at hx
        cases Option.some.inj hx
        obtain ⟨x, hxx, hr1, hl1⟩ := al1.get hu
        have hi := (List.getElem?_eq_some_iff.mp hu).1
        refine ⟨rfl, _, rfl, u, _, _, _, rfl, rfl, SqT.of (s2 _ _ hr1), atI_nat (j := 0) rfl, _, hB, szL' (by rw [List.length_map, List.length_take]; omega), sm_new s2 nB, ?_⟩
        rw [upd_same, take_succ_at hxx, List.map_append]
        rfl
    · obtain ⟨s2, hB⟩ := hp
      rw [List.length_map, lrs, List.take_length] at hB
      have s02 := s1.trans s2
      have dpB : Dp K H2 (.ref B) (dRows (xs.map (·.2.1))) := by
        refine .lst (SqL.of hB) ?_
        have z := dp_lists (K := K) (H := H2) (as := xs.map (·.1)) (rs := xs.map (·.2.1)) (by rw [List.length_map, List.length_map]) fun i b r hb hr => by
          rw [List.getElem?_map] at hb hr
          cases hx : xs[i]? with
          | none => rw [hx] at hb; cases hb
          | some x =>
            rw [hx] at hb hr
            cases Option.some.inj hb
            cases Option.some.inj hr
            have hi := (List.getElem?_eq_some_iff.mp hx).1
            obtain ⟨x', hx', _, hl1⟩ := al1.get (List.getElem?_eq_getElem (l := rs) (i := i) (by omega))
            rw [hx] at hx'
            cases Option.some.inj hx'
            exact s2 _ _ hl1
        rw [List.map_map] at z
        exact z
      have dpL : Dp K H2 (.ref lp) (dRows (lesserF ws)) := .lst (SqL.of (s2 _ _ hlp)) (dp_lists lbs fun i b r hb hr => s2 _ _ (hbs i b r hb hr).2.2)
      have efst : (xs.map (·.2)).map (·.1) = xs.map (·.2.1) := by rw [List.map_map]; rfl
      refine ⟨_, rfl, _, _, dpB, dpL, shaped_rows _, shaped_rows _, _, rfl, ite2 (fun c => ?_) (fun c => ?_)⟩
      · have hne : ¬ xs.map (·.2.1) = lesserF ws := fun z => by
          rw [eqv_rows, decide_eq_true z] at c
          cases c
        have q1 := q H2 s02
        unfold showsM at q1
        rw [efst, decide_eq_false hne] at q1
        exact q1
      · have heq : xs.map (·.2.1) = lesserF ws := Classical.byContradiction fun z => c (by rw [eqv_rows, decide_eq_false z]; rfl)
        have nd : (xs.map (·.2.1)).Nodup := by rw [heq]; exact lesserF_nodup ws
        have hta2 := s2 _ _ hta1
        have al2 : Al (TRowAt H2) rs xs := al1.imp fun r x h => h.ke (.of s2)
        have hlp2 := s2 _ _ hlp
        have lxs : xs.length = (lesserF ws).length := by rw [← heq, List.length_map]
        have pos : 0 < xs.length := by
          obtain ⟨_, l, e⟩ := lesserF_chain (w := ws) fun x hx => (sm x hx).1
          rw [lxs, e]
          exact Nat.succ_pos _
        refine fun Dd nD => ?_
        have sD := same_upd (o := .dT []) nD
        have hD0 : upd H2 Dd (.dT []) Dd = some (.dT []) := upd_same
        refine ⟨_, rfl, ta, rfl, ⟨_, SqL.of (sD _ _ hta2)⟩, for_list (K := K) (a := ta) (xs := rs.map V.ref) (fun i σ H' => ∃ y5 y6 y7 y8 y9 y10 y11 y12 : Option V, σ = [some (.ref a), some (.ref wa), some (.ref ta), some (.ref lp), some (.ref Dd), y5, y6, y7, y8, y9, y10, y11, y12] ∧ Same H2 H' ∧ H' Dd = some (.dT (numD ((xs.take i).map (·.2))))) ⟨none, none, none, none, none, none, none, none, rfl, sD, hD0⟩ (fun i σ H' _ hp => ?_) (fun i x σ H3 hx hp => ?_) (fun σ H3 hp => ?_)⟩
        · obtain ⟨_, _, _, _, _, _, _, _, _, s3, _⟩ := hp
          exact SqL.of (s3 _ _ hta2)
        · obtain ⟨y5, y6, y7, y8, y9, y10, y11, y12, rfl, s3, hD3⟩ := hp
          rw [List.getElem?_map] at hx
          cases hu : rs[i]? with
          | none => rw [hu] at hx; cases hx
          | some u =>
            rw [hu] at hx
            cases Option.some.inj hx
            obtain ⟨x, hxx, hr1, hl1⟩ := al2.get hu
            have hi := (List.getElem?_eq_some_iff.mp hu).1
            refine ⟨u, _, rfl, SqT.of (s3 _ _ hr1), rfl, _, _, rfl, _, _, rfl, rfl, ?_⟩
            refine ⟨_, rfl, _, rfl, _, rfl, .inl ⟨x.1, _, rfl, SqL.of (s3 _ _ hl1), fun t6 nt6 => ?_⟩⟩
            have s6 := same_upd (o := .tup (x.2.1.map V.int)) nt6
            refine ⟨Dd, _, rfl, DPut.t (s6 _ _ hD3) (k := keyW x.2.1) (by rw [keyW_kV]; exact upd_same) (szL' (by unfold numD; rw [List.length_map, List.length_map, List.length_take]; omega)), ?_⟩
            refine ⟨_, _, _, _, _, _, _, _, rfl, sm_new (s3.trans s6) nD, ?_⟩
            have hno : valV (numD ((xs.take i).map (·.2))) (keyW x.2.1) = none := by
              rw [valV_num, numAt_no]
              · rfl
              · rw [List.map_map]
                have z : (xs.take i).map ((·.1) ∘ (·.2)) = (lesserF ws).take i := by
                  rw [← heq, List.map_take]
                  rfl
                rw [z]
                exact lesser_not_before (by rw [← heq, List.getElem?_map, hxx]; rfl)
            rw [upd_same, putK_new _ hno, take_succ_at hxx, List.map_append]
            unfold numD
            rw [List.map_append]
            rfl
        · obtain ⟨y5, y6, y7, y8, y9, y10, y11, y12, rfl, s3, hD3⟩ := hp
          rw [List.length_map, lrs, List.take_length] at hD3
          have s03 := s02.trans s3
          have hta3 := s3 _ _ hta2
          have hlp3 := s3 _ _ hlp2
          -- table[0][1]
          have hu : rs[0]? = some (rs[0]'(by omega)) := List.getElem?_eq_getElem (by omega)
          generalize rs[0]'(by omega) = u at hu
          obtain ⟨x0, hx0, hr0, hl0⟩ := al2.get hu
          have hu0 : (rs.map V.ref)[0]? = some (.ref u) := by rw [List.getElem?_map, hu]; rfl
          have hr03 := s3 _ _ hr0
          generalize hrows : xs.map (·.2) = rows at hD3 q efst
          have ndr : (rows.map (·.1)).Nodup := by rw [efst]; exact nd
          have hr00 : rows[0]? = some x0.2 := by rw [← hrows, List.getElem?_map, hx0]; rfl
          have ez : x0.2.1 = List.replicate ws.length 0 := by
            obtain ⟨_, l, e⟩ := lesserF_chain (w := ws) fun x hx => (sm x hx).1
            have h1 : (lesserF ws)[0]? = some x0.2.1 := by rw [← heq, List.getElem?_map, hx0]; rfl
            rw [e] at h1
            exact (Option.some.inj h1).symm
          have en0 : numAt rows (List.replicate ws.length 0) = some x0.2.2 := by
            rw [← ez]
            exact numAt_at ndr hr00
          have eM : showsM os ws rows = (startOk (some x0.2.2) && (prowsM os).all (colOk rows)) := by
            unfold showsM
            rw [en0, efst, decide_eq_true heq, Bool.true_and]
            congr 1
            exact (all_swap (fun r x => stepOk rows r.1 r.2 x) rows (prowsM os))
          rw [eM] at q
          have go : startOk (some x0.2.2) = true → (∃ y6 y7 y8 y9 y10 y11 y12 : Option V, True) → _ := fun _ _ => True.intro
          clear go
          have bad : ∀ {x : PR} {r : NR} {H' : Hp}, x ∈ prowsM os → r ∈ rows → stepOk rows r.1 r.2 x = false → Same H H' → Q (.bl false) H' := fun {x r H'} hx hr z s' => by
            have q1 := q H' s'
            rw [show (prowsM os).all (colOk rows) = false from List.all_eq_false.mpr ⟨x, hx, by
              rw [show colOk rows x = false from List.all_eq_false.mpr ⟨r, hr, by rw [z]; exact Bool.false_ne_true⟩]
              exact Bool.false_ne_true⟩, Bool.and_false] at q1
            exact q1
          refine ⟨_, rfl, ta, _, _, _, rfl, rfl, SqL.of hta3, atI_nat (j := 0) hu0, u, _, _, _, rfl, rfl, SqT.of hr03, atI_nat (j := 1) rfl, rfl, ?_⟩
          have step : ∀ {n : Int}, x0.2.2 = some n → n ≤ 0 → startOk (some x0.2.2) = true := fun {n} e h => by
            rw [e]
            exact decide_eq_true h
          cases hn : x0.2.2 with
          | none =>
            refine ⟨true, rfl, ?_⟩
            have q1 := q H3 s03
            rw [hn] at q1
            exact q1
          | some n =>
            refine ⟨false, rfl, ?_⟩
            rw [hn] at hr03
            refine ⟨_, rfl, ta, _, _, _, rfl, rfl, SqL.of hta3, atI_nat (j := 0) hu0, u, _, _, _, rfl, rfl, SqT.of hr03, atI_nat (j := 1) rfl, _, _, rfl, rfl, _, rfl, ite2 (fun c => ?_) (fun c => ?_)⟩
            · have c' : 0 < n := of_decide_eq_true c
              have q1 := q H3 s03
              rw [hn, show startOk (some (some n)) = false from decide_eq_false (by omega)] at q1
              exact q1
            · have c' : ¬ 0 < n := fun z => c (decide_eq_true z)
              have st := step hn (by omega)
              -- the lines
              refine ⟨_, rfl, a, d, os, ds, m, rfl, s03 _ _ hd, hS.same (cut_mono s03), gd, ft, by omega, fun H4 W s4 nW hW => ?_⟩
              obtain ⟨nWd, as, hWl, alp⟩ := hW
              have lal := alp.len
              have alp4 : Al (PRowAt H4) as (prowsM os) := alp.imp fun r x h => h.ke (.of cut_le)
              have s04 := s03.trans s4
              have hD4 := s4 _ _ hD3
              have hlp4 := s4 _ _ hlp3
              refine ⟨W, rfl, ⟨_, SqL.of hWl⟩, for_list (K := K) (a := W) (xs := as.map V.ref) (fun i σ H' => ∃ y5 y6 y7 y8 y9 y10 y11 y12 : Option V, σ = [some (.ref a), some (.ref wa), some (.ref ta), some (.ref lp), some (.ref Dd), y5, y6, y7, y8, y9, y10, y11, y12] ∧ Same H4 H' ∧ ((prowsM os).take i).all (colOk rows) = true) ⟨_, _, _, _, _, _, _, _, rfl, fun _ _ z => z, rfl⟩ (fun i σ H' _ hp => ?_) (fun i x σ H5 hx hp => ?_) (fun σ H5 hp => ?_)⟩
              · obtain ⟨_, _, _, _, _, _, _, _, _, s5, _⟩ := hp
                exact SqL.of (s5 _ _ hWl)
              · obtain ⟨y5', y6', y7', y8', y9', y10', y11', y12', rfl, s5, ok⟩ := hp
                rw [List.getElem?_map] at hx
                cases hv : as[i]? with
                | none => rw [hv] at hx; cases hx
                | some ra =>
                  rw [hv] at hx
                  cases Option.some.inj hx
                  obtain ⟨x, hxx, lx, cx, hra, hla, hca⟩ := alp4.get hv
                  have xm : x ∈ prowsM os := List.mem_of_getElem? hxx
                  refine ⟨ra, _, rfl, SqT.of (s5 _ _ hra), rfl, _, _, rfl, _, _, rfl, _, _, rfl, rfl, ?_⟩
                  have hlp5 := s5 _ _ hlp4
                  refine ⟨_, rfl, lp, rfl, ⟨_, SqL.of hlp5⟩, for_list (K := K) (a := lp) (xs := bs.map V.ref) (fun j σ H' => ∃ y5 y10 y11 y12 : Option V, σ = [some (.ref a), some (.ref wa), some (.ref ta), some (.ref lp), some (.ref Dd), y5, y6', some (.ref lx), some (.ref cx), some (.int x.2.2), y10, y11, y12] ∧ Same H5 H' ∧ (rows.take j).all (fun r => stepOk rows r.1 r.2 x) = true) ⟨_, _, _, _, rfl, fun _ _ z => z, rfl⟩ (fun j σ H' _ hp => ?_) (fun j y σ H6 hy hp => ?_) (fun σ H6 hp => ?_)⟩
                  · obtain ⟨_, _, _, _, _, s6, _⟩ := hp
                    exact SqL.of (s6 _ _ hlp5)
                  · obtain ⟨z5, z10, z11, z12, rfl, s6, ok6⟩ := hp
                    rw [List.getElem?_map] at hy
                    cases hb : bs[j]? with
                    | none => rw [hb] at hy; cases hy
                    | some b =>
                      rw [hb] at hy
                      cases Option.some.inj hy
                      have hj := (List.getElem?_eq_some_iff.mp hb).1
                      obtain ⟨r, hrj⟩ : ∃ r, rows[j]? = some r := ⟨_, List.getElem?_eq_getElem (by rw [← hrows, List.length_map]; omega)⟩
                      have hrm := List.mem_of_getElem? hrj
                      have hwj : (lesserF ws)[j]? = some r.1 := by
                        rw [← heq, ← efst, List.getElem?_map, hrj]
                        rfl
                      have lew : LeW r.1 ws := lesserF_mem.mp (List.mem_of_getElem? hwj)
                      have hb1 := (hbs j b r.1 hb hwj).2.2
                      have hb6 : H6 b = some (LI r.1) := s6 _ _ (s5 _ _ (s4 _ _ (s3 _ _ (s2 _ _ hb1))))
                      have s46 := s5.trans s6
                      have etk : (rows.take (j + 1)).all (fun r => stepOk rows r.1 r.2 x) = stepOk rows r.1 r.2 x := by
                        rw [take_succ_at hrj, List.all_append, ok6]
                        simp
                      refine ⟨_, rfl, _, rfl, .inl ⟨b, _, rfl, SqL.of hb6, fun t7 nt7 => ?_⟩⟩
                      have s7 := same_upd (o := .tup (r.1.map V.int)) nt7
                      have ht7 : upd H6 t7 (.tup (r.1.map V.int)) t7 = some (.tup ((keyW r.1).map kV)) := by rw [upd_same, keyW_kV]
                      have dg := DGet.t ((s46.trans s7) _ _ hD4) ht7
                      rw [valV_num, numAt_at ndr hrj] at dg
                      refine ⟨Dd, _, rfl, dg, ?_⟩
                      have s47 := s46.trans s7
                      have hb7 := s7 _ _ hb6
                      have s67 := s7
                      generalize upd H6 t7 (.tup (r.1.map V.int)) = H7 at s47 hb7 s67 ⊢
                      clear ht7 dg s7
                      refine ⟨_, rfl, _, rfl, _, rfl, b, cx, r.1, x.2.1, rfl, hb7, s47 _ _ hca, by rw [clen x xm, lew.len]; exact hlw, by rw [lew.len]; omega, fun H8 l8 s8 nl8 hl8 => ?_⟩
                      refine .inl ⟨l8, _, rfl, SqL.of hl8, fun t9 nt9 => ?_⟩
                      have s9 := same_upd (o := .tup ((restM r.1 x.2.1).map V.int)) nt9
                      have ht9 : upd H8 t9 (.tup ((restM r.1 x.2.1).map V.int)) t9 = some (.tup ((keyW (restM r.1 x.2.1)).map kV)) := by rw [upd_same, keyW_kV]
                      have s49 := s47.trans (s8.trans s9)
                      have s69 := s67.trans (s8.trans s9)
                      have dg := DGet.t (s49 _ _ hD4) ht9
                      obtain ⟨b2, hb2⟩ : ∃ o, numAt rows (restM r.1 x.2.1) = some o := numAt_mem (by
                        rw [efst, heq]
                        exact lesserF_mem.mpr ((rest_le (c := x.2.1) lew.nonneg (nn x.2 (List.mem_map.mpr ⟨x, xm, rfl⟩)).1).1.trans lew))
                      rw [valV_num, hb2] at dg
                      refine ⟨Dd, _, rfl, dg, ?_⟩
                      clear dg ht9
                      generalize upd H8 t9 (.tup ((restM r.1 x.2.1).map V.int)) = H9 at s49 s69 ⊢
                      cases b2 with
                      | none =>
                        refine ⟨_, rfl, rfl, false, rfl, _, _, _, _, rfl, s6.trans s69, ?_⟩
                        rw [etk]
                        unfold stepOk
                        rw [hb2]
                      | some g =>
                        refine ⟨_, rfl, rfl, true, rfl, ?_⟩
                        cases ho : r.2 with
                        | none =>
                          refine ⟨_, rfl, rfl, true, rfl, ?_⟩
                          refine bad xm hrm ?_ (s04.trans s49)
                          unfold stepOk
                          rw [hb2, ho]
                        | some n2 =>
                          refine ⟨_, rfl, rfl, false, rfl, ?_⟩
                          refine ⟨_, rfl, _, rfl, _, rfl, _, _, rfl, rfl, _, _, rfl, rfl, _, rfl, ite2 (fun c => ?_) (fun c => ?_)⟩
                          · have c' : x.2.2 + g < n2 := of_decide_eq_true c
                            refine bad xm hrm ?_ (s04.trans s49)
                            unfold stepOk
                            rw [hb2, ho]
                            exact decide_eq_false (by omega)
                          · have c' : ¬ x.2.2 + g < n2 := fun z => c (decide_eq_true z)
                            refine ⟨_, _, _, _, rfl, s6.trans s69, ?_⟩
                            rw [etk]
                            unfold stepOk
                            rw [hb2, ho]
                            exact decide_eq_true (by omega)
                  · obtain ⟨z5, z10, z11, z12, rfl, s6, ok6⟩ := hp
                    rw [List.length_map, lbs, List.take_of_length_le (by rw [← hrows, List.length_map, lxs]; exact Nat.le_refl _)] at ok6
                    refine ⟨_, _, _, _, _, _, _, _, rfl, s5.trans s6, ?_⟩
                    rw [take_succ_at hxx, List.all_append, ok]
                    simp only [Bool.true_and, List.all_cons, List.all_nil, Bool.and_true]
                    exact ok6
              · obtain ⟨_, _, _, _, _, _, _, _, rfl, s5, ok⟩ := hp
                rw [List.length_map, lal, List.take_length] at ok
                have q1 := q H5 (s04.trans s5)
                rw [st, ok] at q1
                exact q1
end
/-! ### _law_one_bent, _law_less, _law_bent -/
abbrev s_law_one_bent : Stmt := topS 46
abbrev N_law_one_bent : List Str := ["_law_table", "_law_draws_here", "_law_number", "_law_at", "_law_less_here", "_law_old", "_law_new"]
theorem sc_law_one_bent : FnScope N_law_one_bent ["_law_table", "_law_draws_here"] (defScope s_law_one_bent) := ⟨rfl, rfl, rfl, by decide +kernel, rfl, by decide +kernel, by decide +kernel⟩

abbrev s_law_less : Stmt := topS 47
abbrev N_law_less : List Str := ["_law_number", "_law_by"]
theorem sc_law_less : FnScope N_law_less ["_law_number", "_law_by"] (defScope s_law_less) := ⟨rfl, rfl, rfl, by decide +kernel, rfl, by decide +kernel, by decide +kernel⟩

abbrev s_law_bent : Stmt := topS 48
abbrev N_law_bent : List Str := ["_law_table", "_law_draws_here", "_law_number", "_law_kind", "_law_at", "_law_turn", "_law_other", "_law_some", "_law_by", "_law_less_here", "_law_old", "_law_one"]
theorem sc_law_bent : FnScope N_law_bent ["_law_table", "_law_draws_here"] (defScope s_law_bent) := ⟨rfl, rfl, rfl, by decide +kernel, rfl, by decide +kernel, by decide +kernel⟩

theorem cut_fromV (l : List V) (k : Nat) (h : k ≤ l.length) : cutV l (some (k : Int)) none = l.drop k := by
  have a : HT.sIx l.length 0 (some (k : Int)) = min k l.length := HT.sIx_nat _ _ _
  show (l.drop (HT.sIx l.length 0 (some (k : Int)))).take (l.length - HT.sIx l.length 0 (some (k : Int))) = l.drop k
  rw [a, Nat.min_eq_left h]
  exact List.take_of_length_le (by rw [List.length_drop]; exact Nat.le_refl _)
theorem cut_toV (l : List V) (k : Nat) : cutV l none (some (k : Int)) = l.take k := by
  unfold cutV
  rw [HT.sIx_nat, HT.sIx_none, List.drop_zero, Nat.sub_zero]
  exact (List.take_eq_take_iff).mpr (by omega)
theorem Al.take {α : Type} {R : Addr → α → Prop} : ∀ {as : List Addr} {xs : List α} (n : Nat), Al R as xs → Al R (as.take n) (xs.take n)
  | _, _, 0, _ => True.intro
  | [], [], _ + 1, _ => True.intro
  | [], _ :: _, _, h => h.elim
  | _ :: _, [], _, h => h.elim
  | _ :: _, _ :: _, n + 1, h => ⟨h.1, Al.take n h.2⟩
theorem Al.drop {α : Type} {R : Addr → α → Prop} : ∀ {as : List Addr} {xs : List α} (n : Nat), Al R as xs → Al R (as.drop n) (xs.drop n)
  | _, _, 0, h => h
  | [], [], _ + 1, _ => True.intro
  | [], _ :: _, _, h => h.elim
  | _ :: _, [], _, h => h.elim
  | _ :: _, _ :: _, n + 1, h => Al.drop n h.2
theorem cut_sub (ns : List Int) (lo hi : Option Int) : ∃ ms : List Int, cutV (ns.map V.int) lo hi = ms.map V.int ∧ ms.length ≤ ns.length ∧ ∀ y ∈ ms, y ∈ ns := by
  refine ⟨(ns.drop (HT.sIx (ns.map V.int).length 0 lo)).take (HT.sIx (ns.map V.int).length (ns.map V.int).length hi - HT.sIx (ns.map V.int).length 0 lo), ?_, ?_, fun y hy => List.mem_of_mem_drop (List.mem_of_mem_take hy)⟩
  · unfold cutV
    rw [List.map_take, List.map_drop]
  · rw [List.length_take, List.length_drop]
    omega
def RowBd (b : Nat) (x : NR) : Prop := x.1.length ≤ 5 ∧ (∀ y ∈ x.1, y.natAbs ≤ 18) ∧ ∀ n, x.2 = some n → n.natAbs ≤ b
theorem RowBd.mono {b c : Nat} {x : NR} (h : RowBd b x) (le : b ≤ c) : RowBd c x := ⟨h.1, h.2.1, fun n e => Nat.le_trans (h.2.2 n e) le⟩
/-- one row put anew -/
theorem rows_put {p : NR → Prop} {xs : List TR} {j : Nat} {y : TR} (h : ∀ x ∈ xs, p x.2) (hy : p y.2) : ∀ x ∈ xs.take j ++ [y] ++ xs.drop (j + 1), p x.2 := fun x hx => by
  rcases List.mem_append.mp hx with z | z
  · rcases List.mem_append.mp z with z | z
    · exact h x (List.mem_of_mem_take z)
    · rw [List.mem_singleton.mp z]
      exact hy
  · exact h x (List.mem_of_mem_drop z)
theorem rows_put_len {xs : List TR} {j : Nat} {y : TR} (h : j < xs.length) : (xs.take j ++ [y] ++ xs.drop (j + 1)).length = xs.length := by
  rw [List.length_append, List.length_append, List.length_take, List.length_drop, List.length_singleton]
  omega
def sp_one_bent : Sp := fun vs H Q _ => ∃ (ta d : Addr) (ds : List Int) (xs : List TR) (b : Nat), vs = [.ref ta, .ref d] ∧ H d = some (LI ds) ∧ TabAt (cutH d H) ta xs ∧ 0 < xs.length ∧ xs.length ≤ 50000 ∧ (∀ x ∈ xs, RowBd b x.2) ∧
  ∀ H' q ys, SameBut d H H' → (∃ ds', H' d = some (LI ds')) → TabAt (cutH d H') q ys → ys.length = xs.length → (∀ y ∈ ys, RowBd (b + 50) y.2) → Q (.ref q) H'
def lessM (o : Option Int) (b : Int) : Option Int := o.map (· - b)
def sp_less : Sp := fun vs H Q _ => ∃ (o : Option Int) (b : Int), vs = [optV o, .int b] ∧ Q (optV (lessM o b)) H
def sp_bent : Sp := fun vs H Q _ => ∃ (ta d : Addr) (ds : List Int) (xs : List TR) (b : Nat), vs = [.ref ta, .ref d] ∧ H d = some (LI ds) ∧ TabAt (cutH d H) ta xs ∧ 0 < xs.length ∧ xs.length ≤ 20000 ∧ (∀ x ∈ xs, x.2.1.length ≤ 4 ∧ Small x.2.1 ∧ ∀ n, x.2.2 = some n → n.natAbs ≤ b) ∧
  ∀ H' q ys, SameBut d H H' → (∃ ds', H' d = some (LI ds')) → TabAt (cutH d H') q ys → ys.length ≤ xs.length + 1 → (∀ y ∈ ys, RowBd (b + 250) y.2) → Q (.ref q) H'
section
variable {P : Program} {w : World} {K : PySem.W.Frag} {mg : Str → Option Value} {base : Heap}
theorem ok_less {f : Addr} {fd : FuncData} {k : Nat} (D : Def K mg "_law_less" s_law_less ["_law_number", "_law_by"] f fd) : FnOk P w K mg base CX0 (k + 1) f fd ["_law_number", "_law_by"] sp_less := by
  refine D.F.ok sc_law_less (fun vs H Q E h => ?_) (fun cdv A outer s H vs Q E hr h => ?_)
  · obtain ⟨o, b, rfl, _⟩ := h
    rfl
  · obtain ⟨o, b, rfl, q⟩ := h
    refine ⟨_, (pss_cons (ps_if (pt_cmpR op_isN (pv 0) pe_non (nomark _))
   (pss_one (ps_ret pe_non))
   pss_nil)
  (pss_one (ps_ret (pe_op op_sub (pv 0) (pv 1))))), ?_⟩
    cases o with
    | none => exact ⟨_, rfl, rfl, true, rfl, q⟩
    | some n => exact ⟨_, rfl, rfl, false, rfl, _, rfl, _, rfl, _, _, rfl, rfl, q⟩
theorem ok_one_bent {f f1 : Addr} {fd fd1 : FuncData} {k : Nat} (M : Names mg) (D : Def K mg "_law_one_bent" s_law_one_bent ["_law_table", "_law_draws_here"] f fd) (D_law_pop : Def K mg "_law_pop" s_law_pop ["_law_draws_here"] f1 fd1) : FnOk P w K mg base CX0 (k + 2) f fd ["_law_table", "_law_draws_here"] sp_one_bent := by
  have G_law_pop : FnOk P w K mg base CX0 (k + 1) f1 fd1 ["_law_draws_here"] sp_pop := ok_pop D_law_pop
  refine D.F.ok sc_law_one_bent (fun vs H Q E h => ?_) (fun cdv A outer s H vs Q E hr h => ?_)
  · obtain ⟨ta, d, ds, xs, b, rfl, _⟩ := h
    rfl
  · obtain ⟨ta, d, ds, xs, b, rfl, hd, ⟨rs, hta, al⟩, hpos, hle, hb, q⟩ := h
    have lrs := al.len
    refine ⟨_, (pss_cons (ps_set (i := 2) sc_law_one_bent.nd rfl (Or.inl rfl) (pe_call G_law_pop hr (by rfl) D_law_pop.g D_law_pop.F.kp D_law_pop.b .nil pass0 (pa_cons (pv 1) pa_nil)))
  (pss_cutI (ps_set (i := 3) sc_law_one_bent.nd rfl (Or.inl rfl) (pe_op op_mod (pv 2) (pe_callB call_len_seq (by rfl) M.len (by decide +kernel) (pa_cons (pv 0) pa_nil))))
  (pss_cons (ps_asg (pe_ix ix_list (pv 0) (pv 3) (fun _ _ => rfl)) (pg_tup rfl (pgs_cons (pg_name (i := 4) sc_law_one_bent.nd rfl (Or.inl rfl)) (pgs_cons (pg_name (i := 5) sc_law_one_bent.nd rfl (Or.inl rfl)) pgs_nil))))
  (pss_cutI (ps_if (pt_cmpR op_isN (pv 5) pe_non (nomark _))
   (pss_one (ps_set (i := 6) sc_law_one_bent.nd rfl (Or.inl rfl) (pe_ix ix_list (pe_lst (pa_cons pe_int (pa_cons pe_int (pa_cons pe_non pa_nil)))) (pe_op op_mod (pe_op op_fdiv (pv 2) pe_int) pe_int) (fun _ _ => rfl))))
   (pss_one (ps_set (i := 6) sc_law_one_bent.nd rfl (Or.inl rfl) (pe_ix ix_list (pe_lst (pa_cons (pe_op op_add (pv 5) pe_int) (pa_cons (pe_op op_sub (pv 5) pe_int) (pa_cons (pe_op op_sub (pv 5) pe_int) (pa_cons pe_non (pa_cons pe_int (pa_cons (pe_op op_add (pv 5) pe_int) pa_nil))))))) (pe_op op_mod (pe_op op_fdiv (pv 2) pe_int) pe_int) (fun _ _ => rfl)))))
  (pss_one (ps_ret (pe_op op_cat (pe_op op_cat (pe_slice sl_list (pv 0) po_none (po_some (pv 3))) (pe_lst (pa_cons (pe_tup (pa_cons (pv 4) (pa_cons (pv 6) pa_nil))) pa_nil))) (pe_slice sl_list (pv 0) (po_some (pe_op op_add (pv 3) pe_int)) po_none)))))))), ?_⟩
    refine ⟨_, rfl, d, ds, rfl, hd, fun H1 s1 hd1 => ?_⟩
    have c1 := cut_same s1
    have hta1 := c1 _ _ hta
    have al1 : Al (TRowAt (cutH d H1)) rs xs := al.imp fun r x h => h.ke (.of c1)
    have hta1' := cut_le _ _ hta1
    generalize ds.headD 0 = n
    obtain ⟨j, hj, ej⟩ := mod_at (i := n) (n := (rs.map V.ref).length) (by rw [List.length_map]; omega)
    refine ⟨fun σ' H' => σ' = [some (.ref ta), some (.ref d), some (.int n), some (.int (j : Int)), none, none, none] ∧ H' = H1, ?_, fun σ2 H2 hI => ?_⟩
    · refine ⟨_, rfl, _, rfl, ta, _, rfl, .inl (SqL.of hta1'), _, _, rfl, rfl, (by rw [List.length_map]; omega), ?_, rfl⟩
      rw [← ej]
      rfl
    · obtain ⟨rfl, rfl⟩ := hI
      rw [List.length_map] at hj
      have gj : (rs.map V.ref)[j]? = some (.ref rs[j]) := by rw [List.getElem?_map, List.getElem?_eq_getElem hj]; rfl
      obtain ⟨x, hx, hr1, hl1⟩ := al1.get (List.getElem?_eq_getElem hj)
      have hbx := hb x (List.mem_of_getElem? hx)
      refine ⟨_, rfl, _, rfl, ta, _, _, _, rfl, rfl, SqL.of hta1', atI_nat (j := j) gj, rs[j], _, rfl, SqT.of (cut_le _ _ hr1), rfl, _, _, rfl, _, _, rfl, rfl, ?_⟩
      refine ⟨fun σ' H' => ∃ o' : Option Int, σ' = [some (.ref ta), some (.ref d), some (.int n), some (.int (j : Int)), some (.ref x.1), some (optV x.2.2), some (optV o')] ∧ Same H2 H' ∧ ∀ n, o' = some n → n.natAbs ≤ b + 50, ?_, fun σ3 H3 hI => ?_⟩
      · cases ho : x.2.2 with
        | none =>
          refine ⟨_, rfl, rfl, true, rfl, ?_⟩
          refine ⟨by show 3 ≤ sizeLine; decide, fun l nl => ?_⟩
          obtain ⟨i, hi, ei⟩ := mod_at (i := n / 512) (n := 3) (by decide)
          refine ⟨_, rfl, _, _, rfl, rfl, ⟨by decide, by decide⟩, _, _, rfl, rfl, (by show (0 : Int) < 3; decide), ?_⟩
          obtain ⟨o', e1, e2⟩ : ∃ o' : Option Int, ([V.int 0, V.int 5, V.non])[i]? = some (optV o') ∧ ∀ n, o' = some n → n.natAbs ≤ b + 50 := by
            match i, hi with
            | 0, _ => exact ⟨some 0, rfl, fun n e => by cases Option.some.inj e; exact Nat.zero_le _⟩
            | 1, _ => exact ⟨some 5, rfl, fun n e => by cases Option.some.inj e; show 5 ≤ b + 50; omega⟩
            | 2, _ => exact ⟨none, rfl, fun n e => nomatch e⟩
          exact ⟨l, _, _, _, rfl, rfl, SqL.of upd_same, at_of ei e1, o', rfl, same_upd nl, e2⟩
        | some m =>
          have hm := hbx.2.2 m ho
          refine ⟨_, rfl, rfl, false, rfl, ?_⟩
          refine ⟨_, rfl, _, _, rfl, rfl, _, rfl, _, _, rfl, rfl, _, rfl, _, _, rfl, rfl, _, rfl, _, _, rfl, rfl, by show 6 ≤ sizeLine; decide, fun l nl => ?_⟩
          obtain ⟨i, hi, ei⟩ := mod_at (i := n / 512) (n := 6) (by decide)
          refine ⟨_, rfl, _, _, rfl, rfl, ⟨by decide, by decide⟩, _, _, rfl, rfl, (by show (0 : Int) < 6; decide), ?_⟩
          obtain ⟨o', e1, e2⟩ : ∃ o' : Option Int, ([V.int (m + 1), V.int (m - 1), V.int (m - 3), V.non, V.int 0, V.int (m + 50)])[i]? = some (optV o') ∧ ∀ n, o' = some n → n.natAbs ≤ b + 50 := by
            match i, hi with
            | 0, _ => exact ⟨some (m + 1), rfl, fun n e => by cases Option.some.inj e; omega⟩
            | 1, _ => exact ⟨some (m - 1), rfl, fun n e => by cases Option.some.inj e; omega⟩
            | 2, _ => exact ⟨some (m - 3), rfl, fun n e => by cases Option.some.inj e; omega⟩
            | 3, _ => exact ⟨none, rfl, fun n e => nomatch e⟩
            | 4, _ => exact ⟨some 0, rfl, fun n e => by cases Option.some.inj e; exact Nat.zero_le _⟩
            | 5, _ => exact ⟨some (m + 50), rfl, fun n e => by cases Option.some.inj e; omega⟩
          exact ⟨l, _, _, _, rfl, rfl, SqL.of upd_same, at_of ei e1, o', rfl, same_upd nl, e2⟩
      · obtain ⟨o', rfl, s3, ho'⟩ := hI
        have hta3 := s3 _ _ hta1'
        have tk : cutV (rs.map V.ref) none (some (j : Int)) = (rs.take j).map V.ref := by rw [cut_toV, List.map_take]
        have dr : cutV (rs.map V.ref) (some ((j : Int) + 1)) none = (rs.drop (j + 1)).map V.ref := by
          rw [show ((j : Int) + 1) = ((j + 1 : Nat) : Int) by omega, cut_fromV _ (j + 1) (by rw [List.length_map]; omega), List.map_drop]
        refine ⟨_, rfl, _, rfl, _, rfl, ta, _, rfl, SqL.of hta3, fun p4 np4 => ?_⟩
        rw [tk]
        have s4 := same_upd (o := .lst ((rs.take j).map V.ref)) np4
        have hp4 : upd H3 p4 (.lst ((rs.take j).map V.ref)) p4 = some (.lst ((rs.take j).map V.ref)) := upd_same
        generalize upd H3 p4 (.lst ((rs.take j).map V.ref)) = H4 at s4 hp4 ⊢
        refine ⟨_, rfl, _, rfl, by show 2 ≤ sizeLine; decide, fun t5 nt5 => ?_⟩
        have s5 := same_upd (o := .tup [.ref x.1, optV o']) nt5
        have ht5 : upd H4 t5 (.tup [.ref x.1, optV o']) t5 = some (.tup [.ref x.1, optV o']) := upd_same
        generalize upd H4 t5 (.tup [.ref x.1, optV o']) = H5 at s5 ht5 ⊢
        refine ⟨by show 1 ≤ sizeLine; decide, fun l6 nl6 => ?_⟩
        have s6 := same_upd (o := .lst [.ref t5]) nl6
        have hl6 : upd H5 l6 (.lst [.ref t5]) l6 = some (.lst [.ref t5]) := upd_same
        generalize upd H5 l6 (.lst [.ref t5]) = H6 at s6 hl6 ⊢
        refine ⟨p4, l6, _, _, rfl, rfl, s6 _ _ (s5 _ _ hp4), hl6, szL (by rw [List.length_map, List.length_take]; show _ + 1 ≤ _; omega), fun p7 np7 => ?_⟩
        have s7 := same_upd (o := .lst ((rs.take j).map V.ref ++ [.ref t5])) np7
        have hp7 : upd H6 p7 (.lst ((rs.take j).map V.ref ++ [.ref t5])) p7 = some (.lst ((rs.take j).map V.ref ++ [.ref t5])) := upd_same
        generalize upd H6 p7 (.lst ((rs.take j).map V.ref ++ [.ref t5])) = H7 at s7 hp7 ⊢
        have s37 := ((s4.trans s5).trans s6).trans s7
        refine ⟨_, rfl, _, rfl, _, _, rfl, rfl, _, rfl, ta, _, rfl, SqL.of (s37 _ _ hta3), fun p8 np8 => ?_⟩
        rw [dr]
        have s8 := same_upd (o := .lst ((rs.drop (j + 1)).map V.ref)) np8
        have hp8 : upd H7 p8 (.lst ((rs.drop (j + 1)).map V.ref)) p8 = some (.lst ((rs.drop (j + 1)).map V.ref)) := upd_same
        generalize upd H7 p8 (.lst ((rs.drop (j + 1)).map V.ref)) = H8 at s8 hp8 ⊢
        refine ⟨p7, p8, _, _, rfl, rfl, s8 _ _ hp7, hp8, szL (by rw [List.length_append, List.length_map, List.length_map, List.length_take, List.length_drop, List.length_singleton]; omega), fun p9 np9 => ?_⟩
        have s9 := same_upd (o := .lst (((rs.take j).map V.ref ++ [.ref t5]) ++ (rs.drop (j + 1)).map V.ref)) np9
        have s39 := (s37.trans s8).trans s9
        have s29 := s3.trans s39
        have nd9 : p9 ≠ d := fun z => by rw [z, s8 _ _ (s37 _ _ (s3 _ _ hd1))] at np9; cases np9
        have nt5d : t5 ≠ d := fun z => by rw [z, s4 _ _ (s3 _ _ hd1)] at nt5; cases nt5
        have c9 : Same (cutH d H2) (cutH d (upd H8 p9 (.lst (((rs.take j).map V.ref ++ [.ref t5]) ++ (rs.drop (j + 1)).map V.ref)))) := cut_mono s29
        have al9 : Al (TRowAt (cutH d (upd H8 p9 (.lst (((rs.take j).map V.ref ++ [.ref t5]) ++ (rs.drop (j + 1)).map V.ref))))) rs xs := al1.imp fun r x h => h.ke (.of c9)
        have hjx : j < xs.length := by omega
        refine q _ p9 (xs.take j ++ [(x.1, x.2.1, o')] ++ xs.drop (j + 1)) (s1.trans (.of s29)) ⟨_, s29 _ _ hd1⟩ ⟨rs.take j ++ [t5] ++ rs.drop (j + 1), cut_put nd9 ?_, ?_⟩ (rows_put_len hjx) (rows_put (fun y hy => (hb y hy).mono (by omega)) ⟨hbx.1, hbx.2.1, ho'⟩)
        · rw [upd_same, List.map_append, List.map_append]
          rfl
        · exact ((al9.take j).app (.one (x := (x.1, x.2.1, o')) ⟨cut_put nt5d (s9 _ _ (s8 _ _ (s7 _ _ (s6 _ _ ht5)))), c9 _ _ hl1⟩)).app (al9.drop (j + 1))
theorem ok_bent {f f1 f2 f3 : Addr} {fd fd1 fd2 fd3 : FuncData} {k : Nat} (M : Names mg) (D : Def K mg "_law_bent" s_law_bent ["_law_table", "_law_draws_here"] f fd) (D_law_pop : Def K mg "_law_pop" s_law_pop ["_law_draws_here"] f1 fd1) (D_law_one_bent : Def K mg "_law_one_bent" s_law_one_bent ["_law_table", "_law_draws_here"] f2 fd2) (D_law_less : Def K mg "_law_less" s_law_less ["_law_number", "_law_by"] f3 fd3) : FnOk P w K mg base CX0 (k + 3) f fd ["_law_table", "_law_draws_here"] sp_bent := by
  have G_law_pop : FnOk P w K mg base CX0 (k + 2) f1 fd1 ["_law_draws_here"] sp_pop := ok_pop D_law_pop
  have G_law_one_bent : FnOk P w K mg base CX0 (k + 2) f2 fd2 ["_law_table", "_law_draws_here"] sp_one_bent := ok_one_bent M D_law_one_bent D_law_pop
  have G_law_less : FnOk P w K mg base CX0 (k + 2) f3 fd3 ["_law_number", "_law_by"] sp_less := ok_less D_law_less
  refine D.F.ok sc_law_bent (fun vs H Q E h => ?_) (fun cdv A outer s H vs Q E hr h => ?_)
  · obtain ⟨ta, d, ds, xs, b, rfl, _⟩ := h
    rfl
  · obtain ⟨ta, d, ds, xs, b, rfl, hd, ⟨rs, hta, al⟩, hpos, hle, hb, q⟩ := h
    have lrs := al.len
    have hbB : ∀ x ∈ xs, RowBd b x.2 := fun x hx => ⟨by have := (hb x hx).1; omega, fun y hy => by have := (hb x hx).2.1 y hy; omega, (hb x hx).2.2⟩
    refine ⟨_, (pss_cons (ps_set (i := 2) sc_law_bent.nd rfl (Or.inl rfl) (pe_call G_law_pop hr (by rfl) D_law_pop.g D_law_pop.F.kp D_law_pop.b .nil pass0 (pa_cons (pv 1) pa_nil)))
  (pss_cons (ps_set (i := 3) sc_law_bent.nd rfl (Or.inl rfl) (pe_op op_mod (pv 2) pe_int))
  (pss_cutI (ps_set (i := 4) sc_law_bent.nd rfl (Or.inl rfl) (pe_op op_mod (pe_op op_fdiv (pv 2) pe_int) (pe_callB call_len_seq (by rfl) M.len (by decide +kernel) (pa_cons (pv 0) pa_nil))))
  (pss_cons (ps_if (pt_cmpR op_eq (pv 3) pe_int (nomark _))
   (pss_cons (ps_asg (pe_ix ix_list (pv 0) (pv 4) (fun _ _ => rfl)) (pg_tup rfl (pgs_cons (pg_name (i := 9) sc_law_bent.nd rfl (Or.inl rfl)) (pgs_cons (pg_name (i := 10) sc_law_bent.nd rfl (Or.inl rfl)) pgs_nil))))
  (pss_cons (ps_set (i := 6) sc_law_bent.nd rfl (Or.inl rfl) (pe_ix ix_list (pe_lst (pa_cons (pe_op op_cat (pv 9) (pe_lst (pa_cons pe_int pa_nil))) (pa_cons (pe_slice sl_list (pv 9) po_none (po_some (pe_un un_neg pe_int))) (pa_cons (pe_lc (own := [("_law_one", 11)]) (by rfl) sc_law_bent.nd (pi_list (pv 9)) (blkOk_by (own := [("_law_one", 11)]) (N := N_law_bent) (sc := defScope s_law_bent) (by decide +kernel)) (fun _ _ _ _ _ => (pg_name (i := 11) sc_law_bent.nd rfl (Or.inl rfl))) (fun _ _ _ _ _ => pts_nil) (fun _ _ _ _ _ => (pe_op op_add (pv 11) pe_int))) (pa_cons (pe_lc (own := [("_law_one", 11)]) (by rfl) sc_law_bent.nd (pi_list (pv 9)) (blkOk_by (own := [("_law_one", 11)]) (N := N_law_bent) (sc := defScope s_law_bent) (by decide +kernel)) (fun _ _ _ _ _ => (pg_name (i := 11) sc_law_bent.nd rfl (Or.inl rfl))) (fun _ _ _ _ _ => pts_nil) (fun _ _ _ _ _ => (pe_op op_sub pe_int (pv 11)))) pa_nil))))) (pe_op op_mod (pe_op op_fdiv (pv 2) pe_int) pe_int) (fun _ _ => rfl)))
  (pss_cons (ps_set (i := 7) sc_law_bent.nd rfl (Or.inl rfl) (pe_lst (pa_cons (pe_op op_cat (pe_slice sl_list (pv 0) po_none (po_some (pv 4))) (pe_slice sl_list (pv 0) (po_some (pe_op op_add (pv 4) pe_int)) po_none)) (pa_cons (pe_op op_cat (pv 0) (pe_lst (pa_cons (pe_ix ix_list (pv 0) (pv 4) (fun _ _ => rfl)) pa_nil))) (pa_cons (pe_op op_cat (pe_slice sl_list (pv 0) (po_some (pv 4)) po_none) (pe_slice sl_list (pv 0) po_none (po_some (pv 4)))) pa_nil)))))
  (pss_one (ps_ret (pe_ix ix_list (pe_op op_cat (pv 7) (pe_op op_rep (pe_lst (pa_cons (pe_op op_cat (pe_op op_cat (pe_slice sl_list (pv 0) po_none (po_some (pv 4))) (pe_lst (pa_cons (pe_tup (pa_cons (pv 6) (pa_cons (pv 10) pa_nil))) pa_nil))) (pe_slice sl_list (pv 0) (po_some (pe_op op_add (pv 4) pe_int)) po_none)) pa_nil)) pe_int)) (pe_op op_mod (pe_op op_fdiv (pv 2) pe_int) pe_int) (fun _ _ => rfl)))))))
   pss_nil)
  (pss_cons (ps_if (pt_cmpR op_eq (pv 3) pe_int (nomark _))
   (pss_cons (ps_set (i := 8) sc_law_bent.nd rfl (Or.inr rfl) (pe_ix ix_list (pe_lst (pa_cons pe_int (pa_cons pe_int (pa_cons (pe_un un_neg pe_int) pa_nil)))) (pe_op op_mod (pe_op op_fdiv (pv 2) pe_int) pe_int) (fun _ _ => rfl)))
  (pss_one (ps_ret (pe_lc (own := [("_law_less_here", 9), ("_law_old", 10)]) (by rfl) sc_law_bent.nd (pi_list (pv 0)) (blkOk_by (own := [("_law_less_here", 9), ("_law_old", 10)]) (N := N_law_bent) (sc := defScope s_law_bent) (by decide +kernel)) (fun _ _ _ _ _ => (pg_tupK (K := K) (n := 2) rfl rfl (pgs_cons (pg_name (i := 9) sc_law_bent.nd rfl (Or.inl rfl)) (pgs_cons (pg_name (i := 10) sc_law_bent.nd rfl (Or.inl rfl)) pgs_nil)))) (fun _ _ _ _ _ => pts_nil) (fun _ _ _ _ _ => (pe_tup (pa_cons (pv 9) (pa_cons (pe_call G_law_less hr (by rfl) D_law_less.g D_law_less.F.kp D_law_less.b .nil pass0 (pa_cons (pv 10) (pa_cons (pv 8) pa_nil))) pa_nil))))))))
   pss_nil)
  (pss_cons (ps_if (pt_cmpR op_eq (pv 3) pe_int (nomark _))
   (pss_one (ps_ret (pe_lc (own := [("_law_less_here", 9), ("_law_old", 10)]) (by rfl) sc_law_bent.nd (pi_list (pv 0)) (blkOk_by (own := [("_law_less_here", 9), ("_law_old", 10)]) (N := N_law_bent) (sc := defScope s_law_bent) (by decide +kernel)) (fun _ _ _ _ _ => (pg_tupK (K := K) (n := 2) rfl rfl (pgs_cons (pg_name (i := 9) sc_law_bent.nd rfl (Or.inl rfl)) (pgs_cons (pg_name (i := 10) sc_law_bent.nd rfl (Or.inl rfl)) pgs_nil)))) (fun _ _ _ _ _ => pts_nil) (fun _ _ _ _ _ => (pe_tup (pa_cons (pv 9) (pa_cons pe_int pa_nil)))))))
   pss_nil)
  (pss_cons (ps_for PassesOwn.never rfl (pi_range1 (by rfl) M.range (pa_cons (pe_op op_sub (pv 3) pe_int) pa_nil)) (pg_name (i := 5) sc_law_bent.nd rfl (Or.inl rfl))
   (pss_one (ps_set (i := 0) sc_law_bent.nd rfl (Or.inl rfl) (pe_call G_law_one_bent hr (by rfl) D_law_one_bent.g D_law_one_bent.F.kp D_law_one_bent.b .nil pass0 (pa_cons (pv 0) (pa_cons (pv 1) pa_nil))))))
  (pss_one (ps_ret (pv 0)))))))))), ?_⟩
    refine ⟨_, rfl, d, ds, rfl, hd, fun H1 s1 hd1 => ?_⟩
    have c1 := cut_same s1
    have hta1 := c1 _ _ hta
    have al1 : Al (TRowAt (cutH d H1)) rs xs := al.imp fun r x h => h.ke (.of c1)
    have hta1' := cut_le _ _ hta1
    generalize ds.headD 0 = n
    refine ⟨_, rfl, _, _, rfl, rfl, (by show (0 : Int) < 6; decide), ?_⟩
    obtain ⟨j, hj, ej⟩ := mod_at (i := n / 6) (n := (rs.map V.ref).length) (by rw [List.length_map]; omega)
    refine ⟨fun σ' H' => σ' = [some (.ref ta), some (.ref d), some (.int n), some (.int (n % 6)), some (.int (j : Int)), none, none, none, none, none, none, none] ∧ H' = H1, ?_, fun σ2 H2 hI => ?_⟩
    · refine ⟨_, rfl, _, _, rfl, rfl, ⟨by decide, by decide⟩, _, rfl, ta, _, rfl, .inl (SqL.of hta1'), _, _, rfl, rfl, (by rw [List.length_map]; omega), ?_, rfl⟩
      rw [← ej]
      rfl
    · obtain ⟨rfl, rfl⟩ := hI
      rw [List.length_map] at hj
      have hjx : j < xs.length := by omega
      have gj : (rs.map V.ref)[j]? = some (.ref rs[j]) := by rw [List.getElem?_map, List.getElem?_eq_getElem hj]; rfl
      obtain ⟨x, hx, hr1, hl1⟩ := al1.get (List.getElem?_eq_getElem hj)
      have hr1' := cut_le _ _ hr1
      have hl1' := cut_le _ _ hl1
      have hbx := hb x (List.mem_of_getElem? hx)
      have tk : cutV (rs.map V.ref) none (some (j : Int)) = (rs.take j).map V.ref := by rw [cut_toV, List.map_take]
      have dr : cutV (rs.map V.ref) (some ((j : Int) + 1)) none = (rs.drop (j + 1)).map V.ref := by
        rw [show ((j : Int) + 1) = ((j + 1 : Nat) : Int) by omega, cut_fromV _ (j + 1) (by rw [List.length_map]; omega), List.map_drop]
      have dr0 : cutV (rs.map V.ref) (some (j : Int)) none = (rs.drop j).map V.ref := by
        rw [cut_fromV _ j (by rw [List.length_map]; omega), List.map_drop]
      refine ⟨_, rfl, rfl, _, rfl, ite2 (fun c => ?_) (fun c => ?_)⟩
      · -- another list of rows
        refine ⟨_, rfl, _, rfl, ta, _, _, _, rfl, rfl, SqL.of hta1', atI_nat (j := j) gj, rs[j], _, rfl, SqT.of hr1', rfl, _, _, rfl, _, _, rfl, rfl, ?_⟩
        -- other
        refine ⟨_, rfl, by show 1 ≤ sizeLine; decide, fun u3 nu3 => ?_⟩
        have s3 := same_upd (o := .lst [.int 0]) nu3
        have hu3 : upd H2 u3 (.lst [.int 0]) u3 = some (.lst [.int 0]) := upd_same
        generalize upd H2 u3 (.lst [.int 0]) = H3 at s3 hu3 ⊢
        refine ⟨x.1, u3, _, _, rfl, rfl, s3 _ _ hl1', hu3, szL (by rw [List.length_map]; have := hbx.1; show _ + 1 ≤ _; omega), fun v4 nv4 => ?_⟩
        have s4 := s3.trans (same_upd (o := .lst (x.2.1.map V.int ++ [.int 0])) nv4)
        have hv4 : upd H3 v4 (.lst (x.2.1.map V.int ++ [.int 0])) v4 = some (LI (x.2.1 ++ [0])) := by rw [upd_same, li_app]
        generalize upd H3 v4 (.lst (x.2.1.map V.int ++ [.int 0])) = H4 at s4 hv4 ⊢
        refine ⟨_, rfl, _, rfl, _, rfl, x.1, _, rfl, SqL.of (s4 _ _ hl1'), fun v5 nv5 => ?_⟩
        obtain ⟨ms, ems, lms, mms⟩ := cut_sub x.2.1 none (some (-1))
        have s5 := same_upd (o := .lst (cutV (x.2.1.map V.int) none (some (-1)))) nv5
        have hv5 : upd H4 v5 (.lst (cutV (x.2.1.map V.int) none (some (-1)))) v5 = some (LI ms) := by rw [upd_same, ems]
        have s25 := s4.trans s5
        have hv4' := s5 _ _ hv4
        generalize upd H4 v5 (.lst (cutV (x.2.1.map V.int) none (some (-1)))) = H5 at s5 s25 hv5 hv4' ⊢
        refine ⟨_, rfl, x.1, rfl, ⟨_, SqL.of (s25 _ _ hl1')⟩, fun v6 nv6 => lc_list (xs := x.2.1.map V.int) (fun i H' => Same H5 H' ∧ H' v6 = some (LI ((x.2.1.take i).map (· + 9)))) ⟨same_upd nv6, upd_same⟩ (fun i H' _ hp => SqL.of (hp.1 _ _ (s25 _ _ hl1'))) (fun i y H6 hy hp => ?_) (fun H6 hp => ?_)⟩
        · obtain ⟨s6, hv6⟩ := hp
          obtain ⟨m, hm, rfl⟩ := of_get_ints hy
          have hlen := hbx.1
          refine ⟨rfl, _, rfl, _, _, rfl, rfl, _, hv6, szL' (by rw [List.length_map, List.length_map, List.length_take]; omega), sm_new s6 nv6, ?_⟩
          rw [take_succ_at hm, List.map_append]
          exact at_app
        obtain ⟨s6, hv6⟩ := hp
        rw [List.length_map, List.take_length] at hv6
        have s26 := s25.trans s6
        refine ⟨_, rfl, x.1, rfl, ⟨_, SqL.of (s26 _ _ hl1')⟩, fun v7 nv7 => lc_list (xs := x.2.1.map V.int) (fun i H' => Same H6 H' ∧ H' v7 = some (LI ((x.2.1.take i).map (0 - ·)))) ⟨same_upd nv7, upd_same⟩ (fun i H' _ hp => SqL.of (hp.1 _ _ (s26 _ _ hl1'))) (fun i y H7 hy hp => ?_) (fun H7 hp => ?_)⟩
        · obtain ⟨s7, hv7⟩ := hp
          obtain ⟨m, hm, rfl⟩ := of_get_ints hy
          have hlen := hbx.1
          refine ⟨rfl, _, rfl, _, _, rfl, rfl, _, hv7, szL' (by rw [List.length_map, List.length_map, List.length_take]; omega), sm_new s7 nv7, ?_⟩
          rw [take_succ_at hm, List.map_append]
          exact at_app
        obtain ⟨s7, hv7⟩ := hp
        rw [List.length_map, List.take_length] at hv7
        have s27 := s26.trans s7
        have s57 := s6.trans s7
        refine ⟨by show 4 ≤ sizeLine; decide, fun l8 nl8 => ?_⟩
        have s8 := same_upd (o := .lst [.ref v4, .ref v5, .ref v6, .ref v7]) nl8
        have hl8 : upd H7 l8 (.lst [.ref v4, .ref v5, .ref v6, .ref v7]) l8 = some (.lst [.ref v4, .ref v5, .ref v6, .ref v7]) := upd_same
        generalize upd H7 l8 (.lst [.ref v4, .ref v5, .ref v6, .ref v7]) = H8 at s8 hl8 ⊢
        obtain ⟨i, hi, ei⟩ := mod_at (i := n / 30000) (n := 4) (by decide)
        refine ⟨_, rfl, _, _, rfl, rfl, ⟨by decide, by decide⟩, _, _, rfl, rfl, (by show (0 : Int) < 4; decide), ?_⟩
        have ndv : ∀ {v : Addr} {H' : Hp}, Same H2 H' → H' v = none → v ≠ d := fun {v H'} s' nv z => by
          rw [z, s' _ _ hd1] at nv
          cases nv
        obtain ⟨o, ns, e1, e2, e3, e4, e5⟩ : ∃ (o : Addr) (ns : List Int), ([V.ref v4, V.ref v5, V.ref v6, V.ref v7])[i]? = some (V.ref o) ∧ H8 o = some (LI ns) ∧ ns.length ≤ 5 ∧ (∀ y ∈ ns, y.natAbs ≤ 18) ∧ o ≠ d := by
          have sx := hbx.2.1
          have lx := hbx.1
          match i, hi with
          | 0, _ =>
            refine ⟨v4, _, rfl, s8 _ _ (s57 _ _ hv4'), by rw [List.length_append, List.length_singleton]; omega, fun y hy => ?_, ndv s3 nv4⟩
            rcases List.mem_append.mp hy with z | z
            · have := sx y z
              omega
            · rw [List.mem_singleton.mp z]
              decide
          | 1, _ => exact ⟨v5, _, rfl, s8 _ _ (s57 _ _ hv5), by omega, fun y hy => by have := sx y (mms y hy); omega, ndv s4 nv5⟩
          | 2, _ =>
            refine ⟨v6, _, rfl, s8 _ _ (s7 _ _ hv6), by rw [List.length_map]; omega, fun y hy => ?_, ndv s25 nv6⟩
            obtain ⟨z, hz, rfl⟩ := List.mem_map.mp hy
            have := sx z hz
            omega
          | 3, _ =>
            refine ⟨v7, _, rfl, s8 _ _ hv7, by rw [List.length_map]; omega, fun y hy => ?_, ndv s26 nv7⟩
            obtain ⟨z, hz, rfl⟩ := List.mem_map.mp hy
            have := sx z hz
            omega
        refine ⟨l8, _, _, _, rfl, rfl, SqL.of hl8, at_of ei e1, ?_⟩
        have s28 := s27.trans s8
        clear hl8 hv4 hv4' hv5 hv6 hv7 s3 s4 s5 s25 s6 s26 s7 s57 s8 nl8 s27 hu3 nu3 nv4 nv5 nv6 nv7
        -- some
        have hta8 := s28 _ _ hta1'
        refine ⟨_, rfl, _, rfl, _, rfl, ta, _, rfl, SqL.of hta8, fun p9 np9 => ?_⟩
        rw [tk]
        have s9 := same_upd (o := .lst ((rs.take j).map V.ref)) np9
        have hp9 : upd H8 p9 (.lst ((rs.take j).map V.ref)) p9 = some (.lst ((rs.take j).map V.ref)) := upd_same
        generalize upd H8 p9 (.lst ((rs.take j).map V.ref)) = H9 at s9 hp9 ⊢
        refine ⟨_, rfl, _, rfl, _, _, rfl, rfl, _, rfl, ta, _, rfl, SqL.of (s9 _ _ hta8), fun p10 np10 => ?_⟩
        rw [dr]
        have s10 := same_upd (o := .lst ((rs.drop (j + 1)).map V.ref)) np10
        have hp10 : upd H9 p10 (.lst ((rs.drop (j + 1)).map V.ref)) p10 = some (.lst ((rs.drop (j + 1)).map V.ref)) := upd_same
        generalize upd H9 p10 (.lst ((rs.drop (j + 1)).map V.ref)) = H10 at s10 hp10 ⊢
        refine ⟨p9, p10, _, _, rfl, rfl, s10 _ _ hp9, hp10, szL (by rw [List.length_map, List.length_map, List.length_take, List.length_drop]; omega), fun p11 np11 => ?_⟩
        have s11 := same_upd (o := .lst ((rs.take j).map V.ref ++ (rs.drop (j + 1)).map V.ref)) np11
        have hp11 : upd H10 p11 (.lst ((rs.take j).map V.ref ++ (rs.drop (j + 1)).map V.ref)) p11 = some (.lst ((rs.take j).map V.ref ++ (rs.drop (j + 1)).map V.ref)) := upd_same
        have s811 := (s9.trans s10).trans s11
        have nd11 := ndv (s28.trans (s9.trans s10)) np11
        generalize upd H10 p11 (.lst ((rs.take j).map V.ref ++ (rs.drop (j + 1)).map V.ref)) = H11 at s11 hp11 s811 ⊢
        have hta11 := s811 _ _ hta8
        refine ⟨_, rfl, _, rfl, _, rfl, ta, _, _, _, rfl, rfl, SqL.of hta11, atI_nat (j := j) gj, by show 1 ≤ sizeLine; decide, fun p12 np12 => ?_⟩
        have s12 := same_upd (o := .lst [.ref rs[j]]) np12
        have hp12 : upd H11 p12 (.lst [.ref rs[j]]) p12 = some (.lst [.ref rs[j]]) := upd_same
        generalize upd H11 p12 (.lst [.ref rs[j]]) = H12 at s12 hp12 ⊢
        refine ⟨ta, p12, _, _, rfl, rfl, s12 _ _ hta11, hp12, szL (by rw [List.length_map, List.length_singleton]; omega), fun p13 np13 => ?_⟩
        have s13 := same_upd (o := .lst (rs.map V.ref ++ [.ref rs[j]])) np13
        have hp13 : upd H12 p13 (.lst (rs.map V.ref ++ [.ref rs[j]])) p13 = some (.lst (rs.map V.ref ++ [.ref rs[j]])) := upd_same
        have nd13 := ndv (s28.trans (s811.trans s12)) np13
        have s1113 := s12.trans s13
        generalize upd H12 p13 (.lst (rs.map V.ref ++ [.ref rs[j]])) = H13 at s13 hp13 s1113 ⊢
        have s813 := s811.trans s1113
        have hta13 := s813 _ _ hta8
        refine ⟨_, rfl, _, rfl, _, rfl, ta, _, rfl, SqL.of hta13, fun p14 np14 => ?_⟩
        rw [dr0]
        have s14 := same_upd (o := .lst ((rs.drop j).map V.ref)) np14
        have hp14 : upd H13 p14 (.lst ((rs.drop j).map V.ref)) p14 = some (.lst ((rs.drop j).map V.ref)) := upd_same
        generalize upd H13 p14 (.lst ((rs.drop j).map V.ref)) = H14 at s14 hp14 ⊢
        refine ⟨_, rfl, _, rfl, _, rfl, ta, _, rfl, SqL.of (s14 _ _ hta13), fun p15 np15 => ?_⟩
        rw [tk]
        have s15 := same_upd (o := .lst ((rs.take j).map V.ref)) np15
        have hp15 : upd H14 p15 (.lst ((rs.take j).map V.ref)) p15 = some (.lst ((rs.take j).map V.ref)) := upd_same
        generalize upd H14 p15 (.lst ((rs.take j).map V.ref)) = H15 at s15 hp15 ⊢
        refine ⟨p14, p15, _, _, rfl, rfl, s15 _ _ hp14, hp15, szL (by rw [List.length_map, List.length_map, List.length_take, List.length_drop]; omega), fun p16 np16 => ?_⟩
        have s16 := same_upd (o := .lst ((rs.drop j).map V.ref ++ (rs.take j).map V.ref)) np16
        have hp16 : upd H15 p16 (.lst ((rs.drop j).map V.ref ++ (rs.take j).map V.ref)) p16 = some (.lst ((rs.drop j).map V.ref ++ (rs.take j).map V.ref)) := upd_same
        have nd16 := ndv (s28.trans (s813.trans (s14.trans s15))) np16
        have s1316 := (s14.trans s15).trans s16
        generalize upd H15 p16 (.lst ((rs.drop j).map V.ref ++ (rs.take j).map V.ref)) = H16 at s16 hp16 s1316 ⊢
        refine ⟨by show 3 ≤ sizeLine; decide, fun p17 np17 => ?_⟩
        have s17 := same_upd (o := .lst [.ref p11, .ref p13, .ref p16]) np17
        have hp17 : upd H16 p17 (.lst [.ref p11, .ref p13, .ref p16]) p17 = some (.lst [.ref p11, .ref p13, .ref p16]) := upd_same
        have s817 := (s813.trans s1316).trans s17
        have hp11' := s17 _ _ (s1316 _ _ (s1113 _ _ hp11))
        have hp13' := s17 _ _ (s1316 _ _ hp13)
        have hp16' := s17 _ _ hp16
        generalize upd H16 p17 (.lst [.ref p11, .ref p13, .ref p16]) = H17 at s17 hp17 s817 hp11' hp13' hp16' ⊢
        clear hp9 hp10 hp11 hp12 hp13 hp14 hp15 hp16 np9 np10 np11 np12 np13 np14 np15 np16 np17 s9 s10 s11 s12 s13 s14 s15 s16 s17 s811 s813 s1113 s1316
        -- the answer
        have hta17 := s817 _ _ hta8
        refine ⟨_, rfl, _, rfl, _, rfl, _, rfl, ta, _, rfl, SqL.of hta17, fun p18 np18 => ?_⟩
        rw [tk]
        have s18 := same_upd (o := .lst ((rs.take j).map V.ref)) np18
        have hp18 : upd H17 p18 (.lst ((rs.take j).map V.ref)) p18 = some (.lst ((rs.take j).map V.ref)) := upd_same
        generalize upd H17 p18 (.lst ((rs.take j).map V.ref)) = H18 at s18 hp18 ⊢
        refine ⟨_, rfl, _, rfl, by show 2 ≤ sizeLine; decide, fun t19 nt19 => ?_⟩
        have s19 := same_upd (o := .tup [.ref o, optV x.2.2]) nt19
        have ht19 : upd H18 t19 (.tup [.ref o, optV x.2.2]) t19 = some (.tup [.ref o, optV x.2.2]) := upd_same
        generalize upd H18 t19 (.tup [.ref o, optV x.2.2]) = H19 at s19 ht19 ⊢
        refine ⟨by show 1 ≤ sizeLine; decide, fun l20 nl20 => ?_⟩
        have s20 := same_upd (o := .lst [.ref t19]) nl20
        have hl20 : upd H19 l20 (.lst [.ref t19]) l20 = some (.lst [.ref t19]) := upd_same
        generalize upd H19 l20 (.lst [.ref t19]) = H20 at s20 hl20 ⊢
        refine ⟨p18, l20, _, _, rfl, rfl, s20 _ _ (s19 _ _ hp18), hl20, szL (by rw [List.length_map, List.length_take]; show _ + 1 ≤ _; omega), fun p21 np21 => ?_⟩
        have s21 := same_upd (o := .lst ((rs.take j).map V.ref ++ [.ref t19])) np21
        have hp21 : upd H20 p21 (.lst ((rs.take j).map V.ref ++ [.ref t19])) p21 = some (.lst ((rs.take j).map V.ref ++ [.ref t19])) := upd_same
        generalize upd H20 p21 (.lst ((rs.take j).map V.ref ++ [.ref t19])) = H21 at s21 hp21 ⊢
        have s1721 := ((s18.trans s19).trans s20).trans s21
        refine ⟨_, rfl, _, rfl, _, _, rfl, rfl, _, rfl, ta, _, rfl, SqL.of (s1721 _ _ hta17), fun p22 np22 => ?_⟩
        rw [dr]
        have s22 := same_upd (o := .lst ((rs.drop (j + 1)).map V.ref)) np22
        have hp22 : upd H21 p22 (.lst ((rs.drop (j + 1)).map V.ref)) p22 = some (.lst ((rs.drop (j + 1)).map V.ref)) := upd_same
        generalize upd H21 p22 (.lst ((rs.drop (j + 1)).map V.ref)) = H22 at s22 hp22 ⊢
        refine ⟨p21, p22, _, _, rfl, rfl, s22 _ _ hp21, hp22, szL (by rw [List.length_append, List.length_map, List.length_map, List.length_take, List.length_drop, List.length_singleton]; omega), fun p23 np23 => ?_⟩
        have s23 := same_upd (o := .lst (((rs.take j).map V.ref ++ [.ref t19]) ++ (rs.drop (j + 1)).map V.ref)) np23
        have hp23 : upd H22 p23 (.lst (((rs.take j).map V.ref ++ [.ref t19]) ++ (rs.drop (j + 1)).map V.ref)) p23 = some (.lst (((rs.take j).map V.ref ++ [.ref t19]) ++ (rs.drop (j + 1)).map V.ref)) := upd_same
        have s1722 := s1721.trans s22
        have nd23 := ndv (s28.trans (s817.trans s1722)) np23
        have s1723 := s1722.trans s23
        have ht23 := s23 _ _ (s22 _ _ (s21 _ _ (s20 _ _ ht19)))
        have nt19d := ndv (s28.trans (s817.trans s18)) nt19
        generalize upd H22 p23 (.lst (((rs.take j).map V.ref ++ [.ref t19]) ++ (rs.drop (j + 1)).map V.ref)) = H23 at s23 hp23 s1723 ht23 ⊢
        refine ⟨by show 1 ≤ sizeLine; decide, fun l24 nl24 => ?_⟩
        have s24 := same_upd (o := .lst [.ref p23]) nl24
        have hl24 : upd H23 l24 (.lst [.ref p23]) l24 = some (.lst [.ref p23]) := upd_same
        generalize upd H23 l24 (.lst [.ref p23]) = H24 at s24 hl24 ⊢
        refine ⟨l24, _, _, rfl, rfl, hl24, by decide, by decide, by show 1 * _ ≤ sizeLine; decide, fun l25 nl25 => ?_⟩
        rw [show (List.replicate (Int.toNat 2) [V.ref p23]).flatten = [V.ref p23, V.ref p23] from rfl]
        have s25 := same_upd (o := .lst [.ref p23, .ref p23]) nl25
        have hl25 : upd H24 l25 (.lst [.ref p23, .ref p23]) l25 = some (.lst [.ref p23, .ref p23]) := upd_same
        refine ⟨p17, l25, _, _, rfl, rfl, s25 _ _ (s24 _ _ (s1723 _ _ hp17)), hl25, by show 5 ≤ sizeLine; decide, fun l26 nl26 => ?_⟩
        have s26 := same_upd (o := .lst ([.ref p11, .ref p13, .ref p16] ++ [.ref p23, .ref p23])) nl26
        have hl26 : upd (upd H24 l25 (.lst [.ref p23, .ref p23])) l26 (.lst ([.ref p11, .ref p13, .ref p16] ++ [.ref p23, .ref p23])) l26 = some (.lst [.ref p11, .ref p13, .ref p16, .ref p23, .ref p23]) := upd_same
        obtain ⟨i5, hi5, ei5⟩ := mod_at (i := n / 6000) (n := 5) (by decide)
        refine ⟨_, rfl, _, _, rfl, rfl, ⟨by decide, by decide⟩, _, _, rfl, rfl, (by show (0 : Int) < 5; decide), ?_⟩
        have s2326 := (s24.trans s25).trans s26
        have s1726 := s1723.trans s2326
        have s226 := s28.trans (s817.trans s1726)
        generalize upd (upd H24 l25 (.lst [.ref p23, .ref p23])) l26 (.lst ([.ref p11, .ref p13, .ref p16] ++ [.ref p23, .ref p23])) = H26 at s26 hl26 s2326 s1726 s226 ⊢
        have c26 : Same (cutH d H2) (cutH d H26) := cut_mono s226
        have al26 : Al (TRowAt (cutH d H26)) rs xs := al1.imp fun r x h => h.ke (.of c26)
        have al23 : Al (TRowAt (cutH d H26)) (rs.take j ++ [t19] ++ rs.drop (j + 1)) (xs.take j ++ [(o, ns, x.2.2)] ++ xs.drop (j + 1)) := ((al26.take j).app (.one ⟨cut_put nt19d (s2326 _ _ ht23), cut_put e5 (s1726 _ _ (s817 _ _ e2))⟩)).app (al26.drop (j + 1))
        have hB : ∀ y ∈ xs, RowBd (b + 250) y.2 := fun y hy => (hbB y hy).mono (by omega)
        obtain ⟨qa, rs', ys, g1, g2, g3, g4, g5⟩ : ∃ (qa : Addr) (rs' : List Addr) (ys : List TR), ([V.ref p11, V.ref p13, V.ref p16, V.ref p23, V.ref p23])[i5]? = some (V.ref qa) ∧ cutH d H26 qa = some (.lst (rs'.map V.ref)) ∧ Al (TRowAt (cutH d H26)) rs' ys ∧ ys.length ≤ xs.length + 1 ∧ ∀ y ∈ ys, RowBd (b + 250) y.2 := by
          have last : cutH d H26 p23 = some (.lst ((rs.take j ++ [t19] ++ rs.drop (j + 1)).map V.ref)) := by
            refine cut_put nd23 ?_
            rw [s2326 _ _ hp23, List.map_append, List.map_append]
            rfl
          have hB5 : ∀ y ∈ xs.take j ++ [(o, ns, x.2.2)] ++ xs.drop (j + 1), RowBd (b + 250) y.2 := rows_put hB ⟨e3, e4, fun n e => Nat.le_trans (hbx.2.2 n e) (by omega)⟩
          match i5, hi5 with
          | 0, _ =>
            refine ⟨p11, rs.take j ++ rs.drop (j + 1), xs.take j ++ xs.drop (j + 1), rfl, cut_put nd11 ?_, (al26.take j).app (al26.drop (j + 1)), ?_, fun y hy => ?_⟩
            · rw [s1726 _ _ hp11', List.map_append]
            · rw [List.length_append, List.length_take, List.length_drop]
              omega
            · rcases List.mem_append.mp hy with z | z
              · exact hB y (List.mem_of_mem_take z)
              · exact hB y (List.mem_of_mem_drop z)
          | 1, _ =>
            refine ⟨p13, rs ++ [rs[j]], xs ++ [x], rfl, cut_put nd13 ?_, al26.app (.one ⟨c26 _ _ hr1, c26 _ _ hl1⟩), ?_, fun y hy => ?_⟩
            · rw [s1726 _ _ hp13', List.map_append]
              rfl
            · rw [List.length_append, List.length_singleton]
              exact Nat.le_refl _
            · rcases List.mem_append.mp hy with z | z
              · exact hB y z
              · rw [List.mem_singleton.mp z]
                exact hB x (List.mem_of_getElem? hx)
          | 2, _ =>
            refine ⟨p16, rs.drop j ++ rs.take j, xs.drop j ++ xs.take j, rfl, cut_put nd16 ?_, (al26.drop j).app (al26.take j), ?_, fun y hy => ?_⟩
            · rw [s1726 _ _ hp16', List.map_append]
            · rw [List.length_append, List.length_take, List.length_drop]
              omega
            · rcases List.mem_append.mp hy with z | z
              · exact hB y (List.mem_of_mem_drop z)
              · exact hB y (List.mem_of_mem_take z)
          | 3, _ => exact ⟨p23, _, _, rfl, last, al23, by rw [rows_put_len hjx]; omega, hB5⟩
          | 4, _ => exact ⟨p23, _, _, rfl, last, al23, by rw [rows_put_len hjx]; omega, hB5⟩
        exact ⟨l26, _, _, _, rfl, rfl, SqL.of hl26, at_of ei5 g1, q H26 qa ys (s1.trans (.of s226)) ⟨_, s226 _ _ hd1⟩ ⟨rs', g2, g3⟩ g4 g5⟩
      · refine ⟨_, rfl, rfl, _, rfl, ite2 (fun c2 => ?_) (fun c2 => ?_)⟩
        · -- all numbers less
          refine ⟨_, rfl, by show 3 ≤ sizeLine; decide, fun l nl => ?_⟩
          obtain ⟨i, hi, ei⟩ := mod_at (i := n / 6000) (n := 3) (by decide)
          refine ⟨_, rfl, _, _, rfl, rfl, ⟨by decide, by decide⟩, _, _, rfl, rfl, (by show (0 : Int) < 3; decide), ?_⟩
          obtain ⟨by', e1, e2⟩ : ∃ by' : Int, ([V.int 1, V.int 7, V.int (-1)])[i]? = some (.int by') ∧ by'.natAbs ≤ 7 := by
            match i, hi with
            | 0, _ => exact ⟨1, rfl, by decide⟩
            | 1, _ => exact ⟨7, rfl, by decide⟩
            | 2, _ => exact ⟨-1, rfl, by decide⟩
          refine ⟨l, _, _, _, rfl, rfl, SqL.of upd_same, at_of ei e1, ?_⟩
          have s3 := same_upd (o := .lst [.int 1, .int 7, .int (-1)]) nl
          generalize upd H2 l (.lst [.int 1, .int 7, .int (-1)]) = H3 at s3 ⊢
          have hta3 := s3 _ _ hta1'
          refine ⟨_, rfl, ta, rfl, ⟨_, SqL.of hta3⟩, fun B nB => lc_list (xs := rs.map V.ref) (fun i H' => Same H3 H' ∧ ∃ rs' : List Addr, H' B = some (.lst (rs'.map V.ref)) ∧ Al (TRowAt (cutH B (cutH d H'))) rs' ((xs.take i).map fun x => (x.1, x.2.1, lessM x.2.2 by'))) ⟨same_upd nB, [], upd_same, True.intro⟩ (fun i H' _ hp => SqL.of (hp.1 _ _ hta3)) (fun i y H4 hy hp => ?_) (fun H4 hp => ?_)⟩
          · obtain ⟨s4, rs', hB4, alB⟩ := hp
            rw [List.getElem?_map] at hy
            cases hu : rs[i]? with
            | none => rw [hu] at hy; cases hy
            | some u =>
              rw [hu] at hy
              cases Option.some.inj hy
              obtain ⟨x', hx', hru, hlu⟩ := al1.get hu
              have hi' := (List.getElem?_eq_some_iff.mp hu).1
              have s24 := s3.trans s4
              have hru' := cut_le _ _ hru
              refine ⟨u, _, rfl, SqT.of (s24 _ _ hru'), rfl, _, _, rfl, _, _, rfl, rfl, rfl, _, rfl, _, rfl, _, rfl, x'.2.2, by', rfl, ?_⟩
              refine ⟨by show 2 ≤ sizeLine; decide, fun t5 nt5 => ?_⟩
              have lB := alB.len
              rw [List.length_map, List.length_take] at lB
              have s5 := same_upd (o := .tup [.ref x'.1, optV (lessM x'.2.2 by')]) nt5
              have ht5 : upd H4 t5 (.tup [.ref x'.1, optV (lessM x'.2.2 by')]) t5 = some (.tup [.ref x'.1, optV (lessM x'.2.2 by')]) := upd_same
              generalize upd H4 t5 (.tup [.ref x'.1, optV (lessM x'.2.2 by')]) = H5 at s5 ht5 ⊢
              have nt5d : t5 ≠ d := fun z => by rw [z, s24 _ _ hd1] at nt5; cases nt5
              have nt5B : t5 ≠ B := fun z => by rw [z, hB4] at nt5; cases nt5
              have nuB : x'.1 ≠ B := fun z => by
                have := s3 _ _ (cut_le _ _ hlu)
                rw [z, nB] at this
                cases this
              refine ⟨_, s5 _ _ hB4, szL' (by rw [List.length_map]; omega), sm_new (s4.trans s5) nB, rs' ++ [t5], ?_, ?_⟩
              · rw [upd_same, List.map_append]
                rfl
              · rw [take_succ_at hx', List.map_append]
                have mono : Same (cutH B (cutH d H4)) (cutH B (cutH d (upd H5 B (.lst (rs'.map V.ref ++ [.ref t5]))))) := fun b' o' e => by
                  obtain ⟨n1, e1⟩ := cut_some e
                  obtain ⟨n2, e2⟩ := cut_some e1
                  exact cut_put n1 (cut_put n2 (by rw [upd_ne n1]; exact s5 _ _ e2))
                refine (alB.imp fun r x h => h.ke (.of mono)).app (.one ⟨cut_put nt5B (cut_put nt5d (by rw [upd_ne nt5B]; exact ht5)), cut_put nuB (cut_put (cut_some hlu).1 (by rw [upd_ne nuB]; exact s5 _ _ (s24 _ _ (cut_le _ _ hlu))))⟩)
          · obtain ⟨s4, rs', hB4, alB⟩ := hp
            rw [List.length_map, lrs, List.take_length] at alB
            have nBd : B ≠ d := fun z => by rw [z, s3 _ _ hd1] at nB; cases nB
            refine q H4 B _ (s1.trans (.of (s3.trans s4))) ⟨_, s4 _ _ (s3 _ _ hd1)⟩ ⟨rs', cut_put nBd hB4, alB.imp fun r x h => h.ke (.of cut_le)⟩ (by rw [List.length_map]; omega) fun y hy => ?_
            obtain ⟨z, hz, rfl⟩ := List.mem_map.mp hy
            obtain ⟨b1, b2, b3⟩ := hbB z hz
            refine ⟨b1, b2, fun n e => ?_⟩
            cases ho : z.2.2 with
            | none => rw [show lessM z.2.2 by' = none by rw [ho]; rfl] at e; cases e
            | some m =>
              have e' : lessM z.2.2 by' = some n := e
              rw [ho] at e'
              cases Option.some.inj e'
              have := b3 m ho
              show (m - by').natAbs ≤ b + 250
              omega
        · refine ⟨_, rfl, rfl, _, rfl, ite2 (fun c3 => ?_) (fun c3 => ?_)⟩
          · -- noughts
            refine ⟨_, rfl, ta, rfl, ⟨_, SqL.of hta1'⟩, fun B nB => lc_list (xs := rs.map V.ref) (fun i H' => Same H2 H' ∧ ∃ rs' : List Addr, H' B = some (.lst (rs'.map V.ref)) ∧ Al (TRowAt (cutH B (cutH d H'))) rs' ((xs.take i).map fun x => (x.1, x.2.1, some 0))) ⟨same_upd nB, [], upd_same, True.intro⟩ (fun i H' _ hp => SqL.of (hp.1 _ _ hta1')) (fun i y H4 hy hp => ?_) (fun H4 hp => ?_)⟩
            · obtain ⟨s4, rs', hB4, alB⟩ := hp
              rw [List.getElem?_map] at hy
              cases hu : rs[i]? with
              | none => rw [hu] at hy; cases hy
              | some u =>
                rw [hu] at hy
                cases Option.some.inj hy
                obtain ⟨x', hx', hru, hlu⟩ := al1.get hu
                have hi' := (List.getElem?_eq_some_iff.mp hu).1
                have hru' := cut_le _ _ hru
                refine ⟨u, _, rfl, SqT.of (s4 _ _ hru'), rfl, _, _, rfl, _, _, rfl, rfl, rfl, _, rfl, by show 2 ≤ sizeLine; decide, fun t5 nt5 => ?_⟩
                have lB := alB.len
                rw [List.length_map, List.length_take] at lB
                have s5 := same_upd (o := .tup [.ref x'.1, .int 0]) nt5
                have ht5 : upd H4 t5 (.tup [.ref x'.1, .int 0]) t5 = some (.tup [.ref x'.1, .int 0]) := upd_same
                generalize upd H4 t5 (.tup [.ref x'.1, .int 0]) = H5 at s5 ht5 ⊢
                have nt5d : t5 ≠ d := fun z => by rw [z, s4 _ _ hd1] at nt5; cases nt5
                have nt5B : t5 ≠ B := fun z => by rw [z, hB4] at nt5; cases nt5
                have nuB : x'.1 ≠ B := fun z => by
                  have := cut_le _ _ hlu
                  rw [z, nB] at this
                  cases this
                refine ⟨_, s5 _ _ hB4, szL' (by rw [List.length_map]; omega), sm_new (s4.trans s5) nB, rs' ++ [t5], ?_, ?_⟩
                · rw [upd_same, List.map_append]
                  rfl
                · rw [take_succ_at hx', List.map_append]
                  have mono : Same (cutH B (cutH d H4)) (cutH B (cutH d (upd H5 B (.lst (rs'.map V.ref ++ [.ref t5]))))) := fun b' o' e => by
                    obtain ⟨n1, e1⟩ := cut_some e
                    obtain ⟨n2, e2⟩ := cut_some e1
                    exact cut_put n1 (cut_put n2 (by rw [upd_ne n1]; exact s5 _ _ e2))
                  refine (alB.imp fun r x h => h.ke (.of mono)).app (.one ⟨cut_put nt5B (cut_put nt5d (by rw [upd_ne nt5B]; exact ht5)), cut_put nuB (cut_put (cut_some hlu).1 (by rw [upd_ne nuB]; exact s5 _ _ (s4 _ _ (cut_le _ _ hlu))))⟩)
            · obtain ⟨s4, rs', hB4, alB⟩ := hp
              rw [List.length_map, lrs, List.take_length] at alB
              have nBd : B ≠ d := fun z => by rw [z, hd1] at nB; cases nB
              refine q H4 B _ (s1.trans (.of s4)) ⟨_, s4 _ _ hd1⟩ ⟨rs', cut_put nBd hB4, alB.imp fun r x h => h.ke (.of cut_le)⟩ (by rw [List.length_map]; omega) fun y hy => ?_
              obtain ⟨z, hz, rfl⟩ := List.mem_map.mp hy
              obtain ⟨b1, b2, b3⟩ := hbB z hz
              exact ⟨b1, b2, fun n e => by cases Option.some.inj e; exact Nat.zero_le _⟩
          · -- one row after the other
            have k6 : 0 ≤ n % 6 ∧ n % 6 < 6 := ⟨Int.emod_nonneg _ (by decide), Int.emod_lt_of_pos _ (by decide)⟩
            refine ⟨_, rfl, _, _, rfl, rfl, _, rfl, by omega, by omega, for_range (n := (n % 6 - 1).toNat) (fun i σ H' => ∃ (ta' : Addr) (ys : List TR) (y5 : Option V), σ = [some (.ref ta'), some (.ref d), some (.int n), some (.int (n % 6)), some (.int (j : Int)), y5, none, none, none, none, none, none] ∧ SameBut d H H' ∧ (∃ ds', H' d = some (LI ds')) ∧ TabAt (cutH d H') ta' ys ∧ ys.length = xs.length ∧ ∀ y ∈ ys, RowBd (b + 50 * i) y.2) ⟨ta, xs, none, rfl, s1, ⟨_, hd1⟩, ⟨rs, hta1, al1⟩, rfl, hbB⟩ (fun i σ H3 hi hp => ?_) (fun σ H3 hp => ?_)⟩
            · obtain ⟨ta', ys, y5, rfl, s3, ⟨ds3, hd3⟩, tb3, ly, hy3⟩ := hp
              refine ⟨_, rfl, _, rfl, ta', d, ds3, ys, b + 50 * i, rfl, hd3, tb3, by omega, by omega, hy3, fun H4 q4 zs s4 hd4 tb4 lz hz => ⟨q4, zs, _, rfl, s3.trans s4, hd4, tb4, by omega, fun y hy => (hz y hy).mono (by omega)⟩⟩
            · obtain ⟨ta', ys, y5, rfl, s3, hd3, tb3, ly, hy3⟩ := hp
              exact ⟨_, rfl, q H3 ta' ys s3 hd3 tb3 (by omega) fun y hy => (hy3 y hy).mono (by omega)⟩
end
/-! ### tables of least prices show themselves -/
theorem op_notB {X : Cx} : OpR X (compareOp .IsNot) (fun x y H Q => ∃ a b, x = .bl a ∧ y = .bl b ∧ Q (.bl (!decide (a = b))) H) := by
  intro pins s σ H x y v u Q I rx ry h
  obtain ⟨a, b, rfl, rfl, q⟩ := h
  obtain rfl : v = Value.bool a := rx
  obtain rfl : u = Value.bool b := ry
  refine wpAny_isNot_plain rfl (fin_bl I q ?_)
  cases a <;> cases b <;> rfl
theorem least_line {ps : List Rw} {w : List Int} {r : Rw} {b : Int} {o : Option Int} (hr : r ∈ ps) (hb : LeastIs ps (restM w r.1) (some b)) (h : LeastIs ps w o) : ∃ n, o = some n ∧ n ≤ r.2 + b := by
  obtain ⟨⟨q, hs, hc, rfl⟩, _⟩ := hb
  have cov : CovM (r :: q) w := cov_cons hc
  have sub : SubM (r :: q) ps := fun x hx => (List.mem_cons.mp hx).elim (fun z => z ▸ hr) (hs x)
  cases o with
  | none => exact (h _ sub cov).elim
  | some n => exact ⟨n, rfl, by have := h.2 _ sub cov; rw [costM_cons] at this; exact this⟩
theorem numAt_least {ps : List Rw} {w : List Int} {o : Option Int} : ∀ {rows : List NR}, (∀ x ∈ rows, LeastIs ps x.1 x.2) → numAt rows w = some o → LeastIs ps w o
  | [], _, e => by cases e
  | r :: rs, h, e => by
    unfold numAt at e
    by_cases z : r.1 = w
    · rw [if_pos z] at e
      cases Option.some.inj e
      rw [← z]
      exact h r List.mem_cons_self
    · rw [if_neg z] at e
      exact numAt_least (fun x hx => h x (List.mem_cons_of_mem _ hx)) e
theorem shows_least {os : List Ofr} {ws : List Int} {rows : List NR} (w0 : ∀ x ∈ ws, 0 ≤ x) (nn : NN (shopRws os)) (hw : rows.map (·.1) = lesserF ws) (hl : ∀ x ∈ rows, LeastIs (shopRws os) x.1 x.2) : showsM os ws rows = true := by
  unfold showsM
  rw [decide_eq_true hw, Bool.true_and, Bool.and_eq_true]
  constructor
  · have hz : List.replicate ws.length (0 : Int) ∈ rows.map (·.1) := by
      rw [hw]
      obtain ⟨_, l, e⟩ := lesserF_chain w0
      rw [e]
      exact List.mem_cons_self
    obtain ⟨o, ho⟩ := numAt_mem hz
    have li := numAt_least hl ho
    have z := leastIs_unique li (leastIs_zero nn fun x hx => by rw [List.eq_of_mem_replicate hx]; exact Int.le_refl _)
    rw [ho, z]
    rfl
  · rw [List.all_eq_true]
    intro r hr
    unfold holdsM
    rw [List.all_eq_true]
    intro x hx
    have xr : x.2 ∈ shopRws os := List.mem_map.mpr ⟨x, hx, rfl⟩
    unfold stepOk
    cases e : numAt rows (restM r.1 x.2.1) with
    | none => rfl
    | some o =>
      cases o with
      | none => rfl
      | some b =>
        obtain ⟨n, e', le⟩ := least_line xr (numAt_least hl e) (hl r hr)
        rw [e']
        exact decide_eq_true le
/-- a bound on least prices -/
theorem least_bound {ps : List Rw} {M : Int} (nn : NN ps) (hM : 0 ≤ M) (hp : ∀ r ∈ ps, r.2 ≤ M) : ∀ (k : Nat) (w : List Int), (∀ x ∈ w, 0 ≤ x) → w.sum ≤ k → (∀ u, LeW u w → ∃ g, LeastIs ps u g) → ∀ p, LeastIs ps w (some p) → 0 ≤ p ∧ p ≤ M * k := by
  intro k
  induction k with
  | zero =>
    intro w w0 hk hex p hw
    have z : ∀ x ∈ w, x ≤ 0 := fun x hx => by
      obtain ⟨i, hi, e⟩ := List.getElem_of_mem hx
      have := sumI_get w0 (j := i) (x := x) (by rw [List.getElem?_eq_getElem hi, e])
      omega
    have e := Option.some.inj (leastIs_unique hw (leastIs_zero nn z))
    subst e
    omega
  | succ k ih =>
    intro w w0 hk hex p hw
    obtain ⟨⟨q, hs, hc, e⟩, hmin⟩ := id hw
    have p0 : 0 ≤ p := by
      rw [← e]
      exact costM_nonneg fun r hr => (nn r (hs r hr)).2
    refine ⟨p0, ?_⟩
    cases ha : anyI w with
    | false =>
      have e := Option.some.inj (leastIs_unique hw (leastIs_zero nn fun x hx => by rw [anyI_zero ha x hx]; exact Int.le_refl _))
      rw [e]
      exact Int.mul_nonneg hM (by omega)
    | true =>
      obtain ⟨i, n, hi, hpos⟩ := anyI_pos w0 ha
      obtain ⟨r, hr, ne⟩ := some_helps hi hpos hc
      obtain ⟨a, b, rfl⟩ := List.append_of_mem hr
      have cr : CovM (a ++ b) (restM w r.1) := cov_rest (sumC_nonneg fun x hx => (nn x (hs x (by
        rcases List.mem_append.mp hx with z | z
        · exact List.mem_append.mpr (.inl z)
        · exact List.mem_append.mpr (.inr (List.mem_cons_of_mem _ z))))).1) (cov_mid hc)
      obtain ⟨r1, _⟩ := rest_le (c := r.1) w0 (nn r (hs r hr)).1
      obtain ⟨g, hg⟩ := hex _ r1
      cases g with
      | none => exact (hg _ (fun x hx => hs x (by
          rcases List.mem_append.mp hx with z | z
          · exact List.mem_append.mpr (.inl z)
          · exact List.mem_append.mpr (.inr (List.mem_cons_of_mem _ z)))) cr).elim
      | some g =>
        have lt := r1.sum_lt.2 ne
        obtain ⟨_, gb⟩ := ih (restM w r.1) r1.nonneg (by omega) (fun u hu => hex u (hu.trans r1)) g hg
        obtain ⟨n', e', le⟩ := least_line (hs r hr) hg hw
        cases Option.some.inj e'
        have hr2 := hp r (hs r hr)
        have : M * ((k + 1 : Nat) : Int) = M * k + M := by
          rw [Int.natCast_add, Int.mul_add]
          omega
        omega
/-! ### what stands while draws change -/
structure CaseI (T : List Addr) (d S wa : Addr) (os : List Ofr) (ws : List Int) (H : Hp) : Prop where
  dr : ∃ ds, H d = some (LI ds)
  tb : Tb T H
  shop : ShopAt (cutH d H) S os
  want : cutH d H wa = some (LI ws)
section
variable {T : List Addr} {d S wa : Addr} {os : List Ofr} {ws : List Int} {H H' : Hp}
theorem CaseI.ke (I : CaseI T d S wa os ws H) (e : Ext T H H') : CaseI T d S wa os ws H' := by
  obtain ⟨ds, hd⟩ := I.dr
  have k := e.ke.cut (d := d)
  exact ⟨⟨ds, e.lst hd⟩, e.t1, I.shop.ke k, k.lst I.want⟩
theorem CaseI.same (I : CaseI T d S wa os ws H) (s : Same H H') : CaseI T d S wa os ws H' := I.ke (.same s I.tb)
theorem CaseI.but (I : CaseI T d S wa os ws H) (s : SameBut d H H') (hd' : ∃ ds, H' d = some (LI ds)) : CaseI T d S wa os ws H' := by
  obtain ⟨ds, hd⟩ := I.dr
  have k := cut_same s
  exact ⟨hd', tb_but s hd I.tb, I.shop.same k, k _ _ I.want⟩
theorem CaseI.sh (I : CaseI T d S wa os ws H) : ShopAt H S os := I.shop.same cut_le
theorem CaseI.wt (I : CaseI T d S wa os ws H) : H wa = some (LI ws) := cut_le _ _ I.want
end
/-- tables stay, all but d stay -/
def ExtD (T : List Addr) (d : Addr) (H H' : Hp) : Prop := ∀ b o, b ≠ d → H b = some o → (∀ ps, o ≠ .tbl ps) → H' b = some o
theorem ExtD.ext {T : List Addr} {d : Addr} {H H' : Hp} (e : Ext T H H') : ExtD T d H H' := fun b o _ h n => e.ext b o h n
theorem ExtD.but {T : List Addr} {d : Addr} {H H' : Hp} (s : SameBut d H H') : ExtD T d H H' := fun b o n h _ => s b o n h
theorem ExtD.trans {T : List Addr} {d : Addr} {H H1 H2 : Hp} (a : ExtD T d H H1) (b : ExtD T d H1 H2) : ExtD T d H H2 := fun c o n h m => b c o n (a c o n h m) m
theorem ExtD.lst {T : List Addr} {d : Addr} {H H' : Hp} (a : ExtD T d H H') {p : Addr} {xs : List V} (n : p ≠ d) (h : H p = some (.lst xs)) : H' p = some (.lst xs) := a p _ n h fun _ z => nomatch z
theorem ExtD.tup {T : List Addr} {d : Addr} {H H' : Hp} (a : ExtD T d H H') {p : Addr} {xs : List V} (n : p ≠ d) (h : H p = some (.tup xs)) : H' p = some (.tup xs) := a p _ n h fun _ z => nomatch z
/-! ### tables shown -/
def dOpt : Option Int → PyData
  | none => .none
  | some n => .int n
def dTr (x : NR) : PyData := .tuple [dInts x.1, dOpt x.2]
def dTab (rows : List NR) : PyData := .list (rows.map dTr)
theorem dp_trs {K : PySem.W.Frag} {H : Hp} : ∀ {rs : List Addr} {xs : List TR}, Al (TRowAt H) rs xs → DpAll K H (rs.map V.ref) ((xs.map (·.2)).map dTr)
  | [], [], _ => .nil
  | [], _ :: _, h => h.elim
  | _ :: _, [], h => h.elim
  | r :: rs, x :: xs, h => .cons (.tup (SqT.of h.1.1) (.cons (dp_ints (SqL.of h.1.2)) (.cons (by
      cases x.2.2 with
      | none => exact .non
      | some n => exact .int n) .nil))) (dp_trs h.2)
theorem dp_tab {K : PySem.W.Frag} {H : Hp} {q : Addr} {xs : List TR} (h : TabAt H q xs) : Dp K H (.ref q) (dTab (xs.map (·.2))) := by
  obtain ⟨rs, h1, h2⟩ := h
  exact .lst (SqL.of h1) (dp_trs h2)
theorem Sh.sum16 {i : Int} (h : i.natAbs < 10 ^ 16) : Sh 17 (.int i) := by
  have ln : (PyData.int i).shown.length ≤ 17 := by
    have t := int_text_length_le10 (a := i) (k := 16) (by decide) h
    rw [← PySem.ofString_length] at t
    exact t
  refine ⟨?_, by simp [PyData.hasDict], ln⟩
  simp only [PyData.showable, decide_eq_true_eq]
  refine log2_small (Nat.lt_trans h ?_)
  exact Nat.lt_trans (by decide : 10 ^ 16 < 2 ^ 64) (Nat.pow_lt_pow_right (by decide) (by decide))
theorem sh_opt {o : Option Int} (h : ∀ n, o = some n → n.natAbs < 10 ^ 16) : Sh 100 (dOpt o) := by
  cases o with
  | none => exact ⟨by simp [dOpt, PyData.showable], by simp [dOpt, PyData.hasDict], by simp [dOpt, PyData.shown]; decide +kernel⟩
  | some n => exact (Sh.sum16 (h n rfl)).mono (by decide)
theorem sh_tab {rows : List NR} (hn : rows.length ≤ 10000) (h1 : ∀ x ∈ rows, x.1.length ≤ 4 ∧ Small x.1) (h2 : ∀ x ∈ rows, ∀ n, x.2 = some n → n.natAbs < 10 ^ 16) : Sh 3000000 (dTab rows) := by
  refine (Sh.list (n := 250) fun y hy => ?_).mono (by rw [List.length_map]; omega)
  obtain ⟨x, hx, rfl⟩ := List.mem_map.mp hy
  refine (Sh.tuple (n := 100) fun z hz => ?_).mono (by show 100 * 2 + 2 * 2 + 3 ≤ 250; decide)
  simp only [List.mem_cons, List.not_mem_nil, or_false] at hz
  rcases hz with rfl | rfl
  · exact (Sh.ints (m := 4) (Small.abs (h1 x hx).2) (h1 x hx).1).mono (by decide)
  · exact sh_opt (h2 x hx)
theorem depth_trs : ∀ rows : List NR, PyData.depthAll (rows.map dTr) ≤ 3
  | [] => by simp [PyData.depthAll]
  | r :: rs => by
    have ih := depth_trs rs
    have h1 := depth_ints r.1
    have h2 : (dOpt r.2).depth = 0 := by cases r.2 <;> simp [dOpt, PyData.depth]
    simp only [List.map_cons, PyData.depthAll, dTr, PyData.depth, h1, h2]
    omega
theorem depth_tab (rows : List NR) : (dTab rows).depth ≤ 60 := by
  have := depth_trs rows
  simp only [dTab, PyData.depth]
  omega
abbrev dKept (os : List Ofr) (ws : List Int) : PyData := .list [dShop os, dInts ws]
theorem sh_kept {m : Nat} {os : List Ofr} {ws : List Int} (gd : Good os) (ft : FitS m os) (hm : m ≤ 4) (smw : Small ws) (hl : ws.length ≤ 4) : Sh 30000 (dKept os ws) := by
  refine (Sh.list (n := 10000) fun y hy => ?_).mono (by show 10000 * 2 + 2 * 2 + 3 ≤ 30000; decide)
  simp only [List.mem_cons, List.not_mem_nil, or_false] at hy
  rcases hy with rfl | rfl
  · exact sh_shop gd ft hm
  · exact (Sh.ints (m := 4) (Small.abs smw) hl).mono (by decide)
theorem depth_kept (os : List Ofr) (ws : List Int) : (dKept os ws).depth ≤ 60 := by
  have h1 := depth_ofrs os
  have h2 := depth_ints ws
  simp only [PyData.depth, PyData.depthAll, h2]
  omega
theorem kept_dp {K : PySem.W.Frag} {H : Hp} {S wa l : Addr} {os : List Ofr} {ws : List Int} (sh : ShopAt H S os) (hw : H wa = some (LI ws)) (hl : H l = some (.lst [.ref S, .ref wa])) : Dp K H (.ref l) (dKept os ws) := .lst (SqL.of hl) (.cons sh.dp (.cons (dp_ints (SqL.of hw)) .nil))
theorem sumI_le {b : Int} : ∀ {ns : List Int}, (∀ x ∈ ns, x ≤ b) → ns.sum ≤ b * ns.length
  | [], _ => by simp
  | a :: r, h => by
    have h1 := h a List.mem_cons_self
    have h2 := sumI_le (ns := r) fun w hw => h w (List.mem_cons_of_mem _ hw)
    rw [List.sum_cons, List.length_cons, show b * ((r.length + 1 : Nat) : Int) = b * (r.length : Int) + b by rw [Int.natCast_add, Int.mul_add]; simp]
    omega
theorem priceM_le {m : Nat} {os : List Ofr} {l : Ln} (ft : FitS m os) (lok : LineOk os l) : priceM os l ≤ 12000000000000 := by
  obtain ⟨p, ep, ways⟩ := lok
  unfold priceM
  rw [ep, Int.toNat_natCast]
  rcases ways with ⟨c, ts, w1, w0, w2, w3, w4⟩ | ⟨c, pr, w1, w2, w3, w4⟩
  · rw [w1]
    have hp : PriceT ts := (ft _ (List.mem_of_getElem? w1)).2.2
    have h0 : 0 ≤ pieceM ts l.c ∧ pieceM ts l.c ≤ 1000000000000 := by
      unfold pieceM pieceL
      rw [List.getLastD_eq_getLast?]
      cases z : ((ts.filter fun t => decide (t.1 ≤ l.c)).map (·.2)).getLast? with
      | none => exact ⟨by decide, by decide⟩
      | some x =>
        obtain ⟨t, ht, rfl⟩ := List.mem_map.mp (List.mem_of_getLast? z)
        have := hp t (List.mem_filter.mp ht).1
        exact ⟨this.1, Int.le_of_lt this.2⟩
    show l.c * pieceM ts l.c ≤ _
    have h1 := Int.mul_le_mul (c := l.c) (d := 12) (a := pieceM ts l.c) (b := 1000000000000)
    have h2 : l.c * pieceM ts l.c ≤ 12 * 1000000000000 := Int.mul_le_mul w3 h0.2 h0.1 (by decide)
    omega
  · rw [w1]
    have h1 : pr < 1000000000000 := (ft _ (List.mem_of_getElem? w1)).2.2.2
    have h2 : (l.as.map (addPr os)).sum ≤ 1000000000000 * ((l.as.map (addPr os)).length : Int) := sumI_le fun x hx => by
      obtain ⟨y, hy, rfl⟩ := List.mem_map.mp hx
      obtain ⟨j, rfl, c', pr', k, hj⟩ := w4 y hy
      unfold addPr
      rw [Int.toNat_natCast, hj]
      exact Int.le_of_lt (ft _ (List.mem_of_getElem? hj)).2.2.2
    rw [List.length_map] at h2
    show pr + _ ≤ _
    omega
theorem rows_eq {ps : List Rw} : ∀ {a b : List NR}, a.map (·.1) = b.map (·.1) → (∀ x ∈ a, LeastIs ps x.1 x.2) → (∀ x ∈ b, LeastIs ps x.1 x.2) → a = b
  | [], [], _, _, _ => rfl
  | [], _ :: _, e, _, _ => by cases e
  | _ :: _, [], e, _, _ => by cases e
  | x :: a, y :: b, e, h1, h2 => by
    have e' : x.1 :: a.map (·.1) = y.1 :: b.map (·.1) := e
    injection e' with e1 e2
    have hx := h1 x List.mem_cons_self
    have hy := h2 y List.mem_cons_self
    rw [e1] at hx
    have e3 := leastIs_unique hx hy
    rw [rows_eq e2 (fun z hz => h1 z (List.mem_cons_of_mem _ hz)) (fun z hz => h2 z (List.mem_cons_of_mem _ hz)), Prod.ext e1 e3]
theorem small_sum36 {ws : List Int} (h : Small ws) (h4 : ws.length ≤ 4) : ws.sum ≤ 36 := by
  have := small_sum h
  omega
/-- the tables of cases can be shown -/
theorem tab_shown {m : Nat} {os : List Ofr} {ws : List Int} {rows : List NR} (gd : Good os) (ft : FitS m os) (sm : Small ws) (h4 : ws.length ≤ 4) (hw : rows.map (·.1) = lesserF ws) (hl : ∀ x ∈ rows, LeastIs (shopRws os) x.1 x.2) : Sh 3000000 (dTab rows) := by
  have nn := rws_nn gd ft
  have hlen : rows.length ≤ 10000 := by
    have z := lesserF_le4 sm h4
    rw [← hw, List.length_map] at z
    exact z
  have mem : ∀ x ∈ rows, LeW x.1 ws := fun x hx => lesserF_mem.mp (by rw [← hw]; exact List.mem_map.mpr ⟨x, hx, rfl⟩)
  have smx : ∀ x ∈ rows, Small x.1 := fun x hx => (mem x hx).small sm
  refine sh_tab hlen (fun x hx => ⟨by rw [(mem x hx).len]; exact h4, smx x hx⟩) fun x hx n e => ?_
  have li := hl x hx
  rw [e] at li
  have hex : ∀ u, LeW u x.1 → ∃ g, LeastIs (shopRws os) u g := fun u hu => by
    have hm : u ∈ rows.map (·.1) := by
      rw [hw]
      exact lesserF_mem.mpr (hu.trans (mem x hx))
    obtain ⟨y, hy, rfl⟩ := List.mem_map.mp hm
    exact ⟨_, hl y hy⟩
  have hp : ∀ r ∈ shopRws os, r.2 ≤ 12000000000000 := fun r hr => by
    obtain ⟨y, hy, rfl⟩ := List.mem_map.mp hr
    obtain ⟨l, hl, rfl⟩ := List.mem_map.mp hy
    exact priceM_le ft (lines_ok gd hl)
  obtain ⟨b1, b2⟩ := least_bound nn (by decide) hp 36 x.1 (mem x hx).nonneg (small_sum36 (smx x hx) (by rw [(mem x hx).len]; exact h4)) hex n li
  omega
-- used defs only
/-! ### the law -/
abbrev s_law : Stmt := topS 49
abbrev N_law : List Str := ["_law_script", "_law_table", "_law_turn", "_law_many", "_law_shop_here", "_law_want_here", "_law_draws_here", "_law_kept", "_law_found"]
theorem sc_law : FnScope N_law ["_law_script"] (defScope s_law) := ⟨rfl, rfl, rfl, by decide +kernel, rfl, by decide +kernel, by decide +kernel⟩

/-- least prices are not great -/
theorem tab_nums {m : Nat} {os : List Ofr} {ws : List Int} {rows : List NR} (gd : Good os) (ft : FitS m os) (sm : Small ws) (h4 : ws.length ≤ 4) (hw : rows.map (·.1) = lesserF ws) (hl : ∀ x ∈ rows, LeastIs (shopRws os) x.1 x.2) : ∀ x ∈ rows, x.1.length ≤ 4 ∧ Small x.1 ∧ ∀ n, x.2 = some n → n.natAbs ≤ 1000000000000000 := fun x hx => by
  have nn := rws_nn gd ft
  have mem : ∀ x ∈ rows, LeW x.1 ws := fun x hx => lesserF_mem.mp (by rw [← hw]; exact List.mem_map.mpr ⟨x, hx, rfl⟩)
  have smx := (mem x hx).small sm
  have lx : x.1.length ≤ 4 := by rw [(mem x hx).len]; exact h4
  refine ⟨lx, smx, fun n e => ?_⟩
  have li := hl x hx
  rw [e] at li
  have hex : ∀ u, LeW u x.1 → ∃ g, LeastIs (shopRws os) u g := fun u hu => by
    have hm : u ∈ rows.map (·.1) := by
      rw [hw]
      exact lesserF_mem.mpr (hu.trans (mem x hx))
    obtain ⟨y, hy, rfl⟩ := List.mem_map.mp hm
    exact ⟨_, hl y hy⟩
  have hp : ∀ r ∈ shopRws os, r.2 ≤ 12000000000000 := fun r hr => by
    obtain ⟨y, hy, rfl⟩ := List.mem_map.mp hr
    obtain ⟨l, hl, rfl⟩ := List.mem_map.mp hy
    exact priceM_le ft (lines_ok gd hl)
  obtain ⟨b1, b2⟩ := least_bound nn (by decide) hp 36 x.1 (mem x hx).nonneg (small_sum36 smx lx) hex n li
  omega
theorem sh_tabB {b : Nat} {rows : List NR} (hb : b < 10 ^ 16) (hn : rows.length ≤ 10001) (h : ∀ x ∈ rows, RowBd b x) : Sh 3000000 (dTab rows) := by
  refine (Sh.list (n := 250) fun y hy => ?_).mono (by rw [List.length_map]; omega)
  obtain ⟨x, hx, rfl⟩ := List.mem_map.mp hy
  refine (Sh.tuple (n := 100) fun z hz => ?_).mono (by show 100 * 2 + 2 * 2 + 3 ≤ 250; decide)
  simp only [List.mem_cons, List.not_mem_nil, or_false] at hz
  obtain ⟨h1, h2, h3⟩ := h x hx
  rcases hz with rfl | rfl
  · exact (Sh.ints (m := 5) (fun n hn => by have := h2 n hn; omega) h1).mono (by decide)
  · exact sh_opt fun n e => Nat.lt_of_le_of_lt (h3 n e) hb
abbrev dKept3 (os : List Ofr) (ws : List Int) (rows : List NR) : PyData := .list [dShop os, dInts ws, dTab rows]
theorem sh_kept3 {m b : Nat} {os : List Ofr} {ws : List Int} {rows : List NR} (gd : Good os) (ft : FitS m os) (hm : m ≤ 4) (smw : Small ws) (hl : ws.length ≤ 4) (hb : b < 10 ^ 16) (hn : rows.length ≤ 10001) (h : ∀ x ∈ rows, RowBd b x) : Sh 10000000 (dKept3 os ws rows) := by
  refine (Sh.list (n := 3000000) fun y hy => ?_).mono (by show 3000000 * 3 + 2 * 3 + 3 ≤ 10000000; decide)
  simp only [List.mem_cons, List.not_mem_nil, or_false] at hy
  rcases hy with rfl | rfl | rfl
  · exact (sh_shop gd ft hm).mono (by decide)
  · exact (Sh.ints (m := 4) (Small.abs smw) hl).mono (by decide)
  · exact sh_tabB hb hn h
theorem depth_kept3 (os : List Ofr) (ws : List Int) (rows : List NR) : (dKept3 os ws rows).depth ≤ 60 := by
  have h1 := depth_ofrs os
  have h2 := depth_ints ws
  have h3 := depth_trs rows
  simp only [PyData.depth, PyData.depthAll, h2, dTab]
  omega
theorem kept3_dp {K : PySem.W.Frag} {H : Hp} {S wa q l : Addr} {os : List Ofr} {ws : List Int} {xs : List TR} (sh : ShopAt H S os) (hw : H wa = some (LI ws)) {rows : List NR} (e : xs.map (·.2) = rows) (tb : TabAt H q xs) (hl : H l = some (.lst [.ref S, .ref wa, .ref q])) : Dp K H (.ref l) (dKept3 os ws rows) := by
  subst e
  exact .lst (SqL.of hl) (.cons sh.dp (.cons (dp_ints (SqL.of hw)) (.cons (dp_tab tb) .nil)))
theorem TabAt.ke {H H' : Hp} (e : Ke H H') {q : Addr} {xs : List TR} (h : TabAt H q xs) : TabAt H' q xs := by
  obtain ⟨rs, h1, h2⟩ := h
  exact ⟨rs, e.lst h1, h2.imp fun r x h => h.ke e⟩
theorem TabAt.un {H : Hp} {d q : Addr} {xs : List TR} (h : TabAt (cutH d H) q xs) : TabAt H q xs := TabAt.ke (H := cutH d H) (.of cut_le) h
theorem TableF.cut {H0 H : Hp} {d q : Addr} {o : HO} {xs : List TR} (hd : H0 d = some o) (h : TableF H0 H q xs) : TabAt (cutH d H) q xs := by
  obtain ⟨rs, h1, h2, _, _, nq⟩ := h
  have nd : ∀ {p : Addr}, H0 p = none → p ≠ d := fun {p} np z => by rw [z, hd] at np; cases np
  exact ⟨rs, cut_put (nd nq) h1, h2.imp fun r x h => ⟨cut_put (nd h.2.2.1) h.1, cut_put (nd h.2.2.2) h.2.1⟩⟩
def sp_law (K : PySem.W.Frag) (t1 t2 t3 : Addr) : Sp := fun vs H Q _ => ∃ (a : Addr) (ns : List Int), vs = [.ref a] ∧ SqL K H a (ns.map V.int) ∧ ns.length ≤ 63 ∧ GxR.TabG H t1 ∧ GxR.TabG H t2 ∧ GxR.TabG H t3 ∧ ∀ H', Q (.bl true) H'
section
variable {P : Program} {w : World} {K : PySem.W.Frag} {mg : Str → Option Value} {base : Heap} {T : List Addr}
theorem ok_law {f f_names_pack f_good_tiers f_can_stand f_look f_adds_to f_choices f_lines_at f_lines f_together f_content_of f_piece_price f_price_of f_priced_lines f_had f_rest f_lesser f_best_step f_all_steps f_cases f_holds f_shows f_law_mix f_law_draws f_law_pop f_law_cut f_law_content f_law_price f_law_tiers f_law_shop f_law_want f_law_groups f_law_sum f_law_lines f_law_lesser f_law_rest f_law_case f_law_shows f_law_one_bent f_law_less f_law_bent c1 t1 c2 t2 c3 t3 : Addr} {fd fd_names_pack fd_good_tiers fd_can_stand fd_look fd_adds_to fd_choices fd_lines_at fd_lines fd_together fd_content_of fd_piece_price fd_price_of fd_priced_lines fd_had fd_rest fd_lesser fd_best_step fd_all_steps fd_cases fd_holds fd_shows fd_law_mix fd_law_draws fd_law_pop fd_law_cut fd_law_content fd_law_price fd_law_tiers fd_law_shop fd_law_want fd_law_groups fd_law_sum fd_law_lines fd_law_lesser fd_law_rest fd_law_case fd_law_shows fd_law_one_bent fd_law_less fd_law_bent : FuncData} (M : Names mg) (D : Def K mg "law" s_law ["_law_script"] f fd)
    (D_names_pack : Def K mg "names_pack" s_names_pack ["shop", "at"] f_names_pack fd_names_pack)
    (D_good_tiers : Def K mg "good_tiers" s_good_tiers ["tiers"] f_good_tiers fd_good_tiers)
    (D_can_stand : Def K mg "can_stand" s_can_stand ["shop", "at"] f_can_stand fd_can_stand)
    (D_look : Def K mg "look" s_look ["shop"] f_look fd_look)
    (D_adds_to : Def K mg "adds_to" s_adds_to ["shop", "place"] f_adds_to fd_adds_to)
    (D_choices : Def K mg "choices" s_choices ["places"] f_choices fd_choices)
    (D_lines_at : Def K mg "lines_at" s_lines_at ["shop", "place"] f_lines_at fd_lines_at)
    (D_lines : Def K mg "lines" s_lines ["shop"] f_lines fd_lines)
    (D_together : Def K mg "together" s_together ["content", "other"] f_together fd_together)
    (D_content_of : Def K mg "content_of" s_content_of ["shop", "line"] f_content_of fd_content_of)
    (D_piece_price : Def K mg "piece_price" s_piece_price ["tiers", "count"] f_piece_price fd_piece_price)
    (D_price_of : Def K mg "price_of" s_price_of ["shop", "line"] f_price_of fd_price_of)
    (D_priced_lines : Def K mg "priced_lines" s_priced_lines ["shop"] f_priced_lines fd_priced_lines)
    (D_had : Def K mg "had" s_had ["content", "thing"] f_had fd_had)
    (D_rest : Def K mg "rest" s_rest ["want", "content"] f_rest fd_rest)
    (D_lesser : Def K mg "lesser" s_lesser ["want"] f_lesser fd_lesser)
    (D_best_step : Def K mg "best_step" s_best_step ["less", "priced", "steps"] f_best_step fd_best_step)
    (D_all_steps : Def K mg "all_steps" s_all_steps ["priced", "want"] f_all_steps fd_all_steps)
    (D_cases : Def K mg "cases" s_cases ["shop", "want"] f_cases fd_cases)
    (D_holds : Def K mg "holds" s_holds ["less", "number", "priced", "numbers"] f_holds fd_holds)
    (D_shows : Def K mg "shows" s_shows ["shop", "want", "table"] f_shows fd_shows)
    (D_law_mix : Def K mg "_law_mix" s_law_mix ["_law_cell", "_law_turn"] f_law_mix fd_law_mix)
    (D_law_draws : Def K mg "_law_draws" s_law_draws ["_law_script", "_law_turn", "_law_many"] f_law_draws fd_law_draws)
    (D_law_pop : Def K mg "_law_pop" s_law_pop ["_law_draws_here"] f_law_pop fd_law_pop)
    (D_law_cut : Def K mg "_law_cut" s_law_cut ["_law_row"] f_law_cut fd_law_cut)
    (D_law_content : Def K mg "_law_content" s_law_content ["_law_draws_here", "_law_many", "_law_most"] f_law_content fd_law_content)
    (D_law_price : Def K mg "_law_price" s_law_price ["_law_draws_here"] f_law_price fd_law_price)
    (D_law_tiers : Def K mg "_law_tiers" s_law_tiers ["_law_draws_here"] f_law_tiers fd_law_tiers)
    (D_law_shop : Def K mg "_law_shop" s_law_shop ["_law_draws_here", "_law_many", "_law_most"] f_law_shop fd_law_shop)
    (D_law_want : Def K mg "_law_want" s_law_want ["_law_draws_here", "_law_many"] f_law_want fd_law_want)
    (D_law_groups : Def K mg "_law_groups" s_law_groups ["_law_places"] f_law_groups fd_law_groups)
    (D_law_sum : Def K mg "_law_sum" s_law_sum ["_law_one", "_law_other"] f_law_sum fd_law_sum)
    (D_law_lines : Def K mg "_law_lines" s_law_lines ["_law_shop_here"] f_law_lines fd_law_lines)
    (D_law_lesser : Def K mg "_law_lesser" s_law_lesser ["_law_want_here"] f_law_lesser fd_law_lesser)
    (D_law_rest : Def K mg "_law_rest" s_law_rest ["_law_want_here", "_law_content_here"] f_law_rest fd_law_rest)
    (D_law_case : Def K mg "_law_case" s_law_case ["_law_script", "_law_many_draws"] f_law_case fd_law_case)
    (D_law_shows : Def K mg "_law_shows" s_law_shows ["_law_shop_here", "_law_want_here", "_law_table"] f_law_shows fd_law_shows)
    (D_law_one_bent : Def K mg "_law_one_bent" s_law_one_bent ["_law_table", "_law_draws_here"] f_law_one_bent fd_law_one_bent)
    (D_law_less : Def K mg "_law_less" s_law_less ["_law_number", "_law_by"] f_law_less fd_law_less)
    (D_law_bent : Def K mg "_law_bent" s_law_bent ["_law_table", "_law_draws_here"] f_law_bent fd_law_bent)
    (hc1 : fd_good_tiers.code = .ref c1) (TB1 : GxR.TabB base mg c1 t1) (hc2 : fd_price_of.code = .ref c2) (TB2 : GxR.TabB base mg c2 t2) (hc3 : fd_shows.code = .ref c3) (TB3 : GxR.TabB base mg c3 t3) :
    FnOkG P w K mg base 10 f fd ["_law_script"] (sp_law K t1 t2 t3) := by
  have m1 : t1 ∈ [t1, t2, t3] := List.mem_cons_self
  have m2 : t2 ∈ [t1, t2, t3] := List.mem_cons_of_mem _ List.mem_cons_self
  have m3 : t3 ∈ [t1, t2, t3] := List.mem_cons_of_mem _ (List.mem_cons_of_mem _ List.mem_cons_self)
  have G_priced8 : FnOk P w K mg base CX0 8 f_priced_lines fd_priced_lines ["shop"] (sp_priced_lines [t1, t2, t3]) := ok_priced_lines M D_priced_lines D_lines D_look D_can_stand D_names_pack D_good_tiers hc1 TB1 m1 D_lines_at D_adds_to D_choices D_content_of D_together D_price_of hc2 TB2 m2 D_piece_price
  have G_cases : FnOk P w K mg base CX0 9 f_cases fd_cases ["shop", "want"] (sp_cases [t1, t2, t3]) := ok_cases M D_cases D_priced_lines D_all_steps G_priced8 (ok_all_steps M D_all_steps D_best_step D_rest D_had D_lesser)
  have G_shows : FnOk P w K mg base CX0 9 f_shows fd_shows ["shop", "want", "table"] (sp_shows [t1, t2, t3]) := ok_shows M D_shows D_priced_lines D_lesser D_holds G_priced8 (ok_lesser M D_lesser) (ok_holds M D_holds D_rest D_had) hc3 TB3 m3
  have G_law_shows : FnOk P w K mg base CX0 9 f_law_shows fd_law_shows ["_law_shop_here", "_law_want_here", "_law_table"] sp_lshows := ok_lshows M D_law_shows D_law_lines D_law_groups D_law_sum D_law_lesser D_law_rest
  have G_law_bent : FnOk P w K mg base CX0 9 f_law_bent fd_law_bent ["_law_table", "_law_draws_here"] sp_bent := ok_bent M D_law_bent D_law_pop D_law_one_bent D_law_less
  have G_law_case : FnOk P w K mg base CX0 9 f_law_case fd_law_case ["_law_script", "_law_many_draws"] (sp_case K) := ok_case M D_law_case D_law_draws D_law_pop D_law_shop D_law_want (ok_draws M D_law_draws D_law_mix) (ok_pop D_law_pop) (ok_shop M D_law_shop D_law_content D_law_price D_law_tiers D_law_cut D_law_pop) (ok_want M D_law_want D_law_pop D_law_cut)
  refine okG D.F sc_law (fun vs H Q E h => ?_) (fun cdv A outer s H vs Q E gd hr h => ?_)
  · obtain ⟨a, ns, rfl, _⟩ := h
    rfl
  · obtain ⟨a, ns, rfl, hS0, hlen, hT1, hT2, hT3, q⟩ := h
    have hT : Tb [t1, t2, t3] H := fun t ht => by
      rcases List.mem_cons.mp ht with rfl | ht
      · exact hT1
      · rcases List.mem_cons.mp ht with rfl | ht
        · exact hT2
        · rw [List.mem_singleton.mp ht]
          exact hT3
    refine ⟨_, (pss_cons (ps_asg (pe_call G_law_case hr (by rfl) D_law_case.g D_law_case.F.kp D_law_case.b .nil pass0 (pa_cons (pv 0) (pa_cons pe_int pa_nil))) (pg_tup rfl (pgs_cons (pg_name (i := 3) sc_law.nd rfl (Or.inl rfl)) (pgs_cons (pg_name (i := 4) sc_law.nd rfl (Or.inl rfl)) (pgs_cons (pg_name (i := 5) sc_law.nd rfl (Or.inl rfl)) (pgs_cons (pg_name (i := 6) sc_law.nd rfl (Or.inl rfl)) pgs_nil))))))
  (pss_cons (ps_set (i := 1) sc_law.nd rfl (Or.inl rfl) (pe_call G_cases hr (by rfl) D_cases.g D_cases.F.kp D_cases.b .nil pass0 (pa_cons (pv 4) (pa_cons (pv 5) pa_nil))))
  (pss_cons (ps_for PassesOwn.never rfl (pi_range1 (by rfl) M.range (pa_cons pe_int pa_nil)) (pg_name (i := 2) sc_law.nd rfl (Or.inl rfl))
   (pss_cons (ps_set (i := 7) sc_law.nd rfl (Or.inl rfl) (pe_callTy (cr_strD gd hr.units) (by rfl) M.str (by decide +kernel) (pa_cons (pe_lst (pa_cons (pv 4) (pa_cons (pv 5) (pa_cons (pv 1) pa_nil)))) pa_nil)))
  (pss_cons (ps_set (i := 8) sc_law.nd rfl (Or.inl rfl) (pe_call G_shows hr (by rfl) D_shows.g D_shows.F.kp D_shows.b .nil pass0 (pa_cons (pv 4) (pa_cons (pv 5) (pa_cons (pv 1) pa_nil)))))
  (pss_cons (ps_if (PW.pt (pw_or (pt_not (pt_val (pe_callB call_isi (by rfl) M.isinstance (by decide +kernel) (pa_cons (pv 8) (pa_cons (pe_bltn (v := .ty "bool") (by rfl) M.bool (by decide +kernel) rfl) pa_nil))))) (pw_or (pt_cmpR op_ne (pv 8) (pe_call G_law_shows hr (by rfl) D_law_shows.g D_law_shows.F.kp D_law_shows.b .nil pass0 (pa_cons (pv 4) (pa_cons (pv 5) (pa_cons (pv 1) pa_nil)))) (nomark _)) (pw_or1 (pt_cmpR op_ne (pe_callTy (cr_strD gd hr.units) (by rfl) M.str (by decide +kernel) (pa_cons (pe_lst (pa_cons (pv 4) (pa_cons (pv 5) (pa_cons (pv 1) pa_nil)))) pa_nil)) (pv 7) (nomark _))))))
   (pss_one (ps_ret pe_bl))
   pss_nil)
  (pss_one (ps_set (i := 1) sc_law.nd rfl (Or.inl rfl) (pe_call G_law_bent hr (by rfl) D_law_bent.g D_law_bent.F.kp D_law_bent.b .nil pass0 (pa_cons (pe_call G_cases hr (by rfl) D_cases.g D_cases.F.kp D_cases.b .nil pass0 (pa_cons (pv 4) (pa_cons (pv 5) pa_nil))) (pa_cons (pv 6) pa_nil)))))))))
  (pss_one (ps_ret pe_bl))))), ?_⟩
    refine ⟨_, rfl, a, ns, 130, rfl, hS0, by omega, by decide, fun H1 t S wa d os ws m ds s1 nd nS nwa ht ntd hsh gd1 ft hl6 hwa hlw hm1 hm4 sm c4 hd => ?_⟩
    have hT1' : Tb [t1, t2, t3] H1 := fun x hx => by
      obtain ⟨ps, h1, h2⟩ := hT x hx
      exact ⟨ps, s1 _ _ (fun z => by rw [z, nd] at h1; cases h1) h1, h2⟩
    have I1 : CaseI [t1, t2, t3] d S wa os ws H1 := ⟨⟨ds, hd⟩, hT1', hsh, hwa⟩
    have w0 : ∀ x ∈ ws, 0 ≤ x := fun x hx => (sm x hx).1
    have nn := rws_nn gd1 ft
    have lw4 : ws.length ≤ 4 := by omega
    have lles := lesserF_le4 sm lw4
    have pos : 0 < (lesserF ws).length := by
      obtain ⟨_, l, e⟩ := lesserF_chain w0
      rw [e]
      exact Nat.succ_pos _
    clear c4 hl6 hsh hwa hd hT hT1'
    refine ⟨t, _, rfl, SqT.of ht, rfl, _, _, rfl, _, _, rfl, _, _, rfl, _, _, rfl, rfl, ?_⟩
    -- the told table
    refine ⟨_, rfl, _, rfl, S, wa, os, ws, rfl, I1.sh, gd1, ft.fit hm4, nn, I1.tb, I1.wt, lw4, sm, fun H2 q2 xs2 e2 nq2 hF2 ef2 li2 => ?_⟩
    obtain ⟨ds1, hd1⟩ := I1.dr
    have I2 := I1.ke e2
    have told : ∀ xs : List TR, xs.map (·.2.1) = lesserF ws → (∀ x ∈ xs, LeastIs (shopRws os) x.2.1 x.2.2) → ∀ x ∈ xs, x.2.1.length ≤ 4 ∧ Small x.2.1 ∧ ∀ n, x.2.2 = some n → n.natAbs ≤ 1000000000000000 := fun xs ef li x hx => tab_nums (rows := xs.map (·.2)) gd1 ft sm lw4 (by rw [List.map_map]; exact ef) (fun y hy => by
      obtain ⟨z, hz, rfl⟩ := List.mem_map.mp hy
      exact li z hz) x.2 (List.mem_map.mpr ⟨x, hx, rfl⟩)
    have lxs : ∀ xs : List TR, xs.map (·.2.1) = lesserF ws → xs.length = (lesserF ws).length := fun xs ef => by rw [← ef, List.length_map]
    refine ⟨4, rfl, by decide, by decide, for_range (n := 4) (fun i σ H' => ∃ (qq : Addr) (xs : List TR) (y2 y7 y8 : Option V), σ = [some (.ref a), some (.ref qq), y2, some (.int m), some (.ref S), some (.ref wa), some (.ref d), y7, y8] ∧ CaseI [t1, t2, t3] d S wa os ws H' ∧ TabAt (cutH d H') qq xs ∧ xs.length ≤ 10001 ∧ ∀ x ∈ xs, RowBd 1000000000000250 x.2) ⟨q2, xs2, none, none, none, rfl, I2, hF2.cut hd1, by rw [lxs xs2 ef2]; omega, fun x hx => ?_⟩ (fun i σ H3 hi hp => ?_) (fun σ H3 hp => q H3)⟩
    · obtain ⟨b1, b2, b3⟩ := told xs2 ef2 li2 x hx
      exact ⟨by omega, fun y hy => by have := b2 y hy; omega, fun n e => Nat.le_trans (b3 n e) (by decide)⟩
    · obtain ⟨qq, xs, y2, y7, y8, rfl, I3, tb3, lx3, hb3⟩ := hp
      have hb3' : ∀ x ∈ xs.map (·.2), RowBd 1000000000000250 x := fun x hx => by
        obtain ⟨z, hz, rfl⟩ := List.mem_map.mp hx
        exact hb3 z hz
      generalize hrows : xs.map (·.2) = rows at hb3'
      have shk := sh_kept3 (b := 1000000000000250) gd1 ft hm4 sm lw4 (by decide) (by rw [← hrows, List.length_map]; exact lx3) hb3'
      have dpk := depth_kept3 os ws rows
      have shl : (dKept3 os ws rows).shown.length ≤ sizeLine := Nat.le_trans shk.len (by decide)
      -- kept
      refine ⟨_, rfl, _, rfl, _, rfl, by show 3 ≤ sizeLine; decide, fun l4 nl4 => ?_⟩
      have s4 := same_upd (o := .lst [.ref S, .ref wa, .ref qq]) nl4
      have I4 := I3.same s4
      have tb4 := tb3.ke (.of (cut_mono s4))
      refine ⟨l4, dKept3 os ws rows, rfl, kept3_dp I4.sh I4.wt hrows tb4.un upd_same, shk.ok, shk.nd, dpk, shl, ?_⟩
      generalize upd H3 l4 (.lst [.ref S, .ref wa, .ref qq]) = H4 at s4 I4 tb4 ⊢
      -- found
      refine ⟨_, rfl, _, rfl, _, rfl, S, wa, qq, os, ws, xs, rfl, I4.sh, gd1, ft.fit hm4, nn, I4.tb, I4.wt, lw4, sm, tb4.un, by omega, fun H5 e5 => ?_⟩
      have I5 := I4.ke e5
      have tb5 := tb4.ke e5.ke.cut
      refine ⟨_, rfl, _, _, _, _, true, rfl, .ty "bool", .base (.bl _), kit_ty (by decide +kernel), true, rfl, ?_⟩
      obtain ⟨ds5, hd5⟩ := I5.dr
      refine ⟨_, rfl, _, rfl, _, rfl, _, rfl, S, wa, qq, d, os, ws, xs, _, m, rfl, hd5, I5.shop, gd1, ft, I5.wt, hlw, hm4, sm, tb5.un, by omega, fun H6 s6 => ?_⟩
      have I6 := I5.same s6
      have tb6 := tb5.ke (.of (cut_mono s6))
      refine ⟨rfl, false, ?_, ?_⟩
      · show V.bl (!decide (V.bl (showsM os ws (xs.map fun x : TR => x.2)) = V.bl (showsM os ws (xs.map fun x : TR => x.2)))) = _
        rw [decide_eq_true rfl]
        rfl
      refine ⟨_, rfl, _, rfl, _, rfl, by show 3 ≤ sizeLine; decide, fun l7 nl7 => ?_⟩
      have s7 := same_upd (o := .lst [.ref S, .ref wa, .ref qq]) nl7
      have I7 := I6.same s7
      have tb7 := tb6.ke (.of (cut_mono s7))
      refine ⟨l7, dKept3 os ws rows, rfl, kept3_dp I7.sh I7.wt hrows tb7.un upd_same, shk.ok, shk.nd, dpk, shl, _, rfl, rfl, false, ?_, ?_⟩
      · show V.bl (!decide (V.str (dKept3 os ws rows).shown = V.str (dKept3 os ws rows).shown)) = _
        rw [decide_eq_true rfl]
        rfl
      generalize upd H6 l7 (.lst [.ref S, .ref wa, .ref qq]) = H7 at s7 I7 tb7 ⊢
      -- the next table
      refine ⟨_, rfl, _, rfl, S, wa, os, ws, rfl, I7.sh, gd1, ft.fit hm4, nn, I7.tb, I7.wt, lw4, sm, fun H8 q8 xs8 e8 nq8 hF8 ef8 li8 => ?_⟩
      have I8 := I7.ke e8
      obtain ⟨ds7, hd7⟩ := I7.dr
      obtain ⟨ds8, hd8⟩ := I8.dr
      have l8 := lxs xs8 ef8
      refine ⟨_, rfl, q8, d, ds8, xs8, 1000000000000000, rfl, hd8, hF8.cut hd7, by omega, by omega, told xs8 ef8 li8, fun H9 q9 ys s9 hd9 tb9 ly hb9 => ?_⟩
      exact ⟨q9, ys, _, _, _, rfl, I8.but s9 hd9, tb9, by omega, hb9⟩
end
/-! ### the end, with tables of code objects -/
theorem tabIn_of {K : PySem.W.Frag} {x : Str} {f c P : Addr} {oc e : Value} {od dd : Option Addr} {fd : FuncData} {sl sl' : Array (Option Value)} {vs : Array Value} (a : PySem.W.nsIn K mainGlobals x = some (some (.ref f))) (l : K.lookup f = some ⟨oc, od, .func fd, sl⟩) (hc : fd.code = .ref c)
    (lc : K.lookup c = some ⟨e, dd, .fields vs, sl'⟩) (hv : vs[11]? = some (.ref P)) : PySem.W.tabIn K x = some (c, P) := by
  unfold PySem.W.tabIn
  rw [a]
  simp only [l, hc, lc, hv]
theorem walk_ofG {l : PySem.W.OpenLaw} {n k : Nat} {q : Program} {loose : List Str} {XP : (Str → Option Value) → Heap → Prop} {YP : World → Heap → Prop} {d : DefRec} {K : Params → PySem.W.Frag} {CX : World → CXT} {x : Str}
    (hn : l.most = some n) (hn2 : n ≤ sizeLine) (hdf : d.params.defaults = []) (hr : Room k callerA) (hY : ∀ (w : World) (h : Heap), YP w h → (K w.params).In h)
    (F : ∀ (w : World) (mg : Str → Option Value) (fa : Addr) (h : Heap), (K w.params).In h → h.Ns mainGlobals mg → mg d.name = some (.ref fa) →
      (∀ (y : Str) (c P : Addr), ((recsOf q).find? fun e => e.name == y).isSome = true → PySem.W.tabIn (K w.params) y = some (c, P) → PySem.W.CodeHd h c P ∧ h.get? P = some { cls := .none, data := .fields #[] }) → LamX.LawAtS l w (K w.params) (CX w) k n x mg fa h)
    (hCX : ∀ (w : World) (H : Hp) (s : Shared) (e : Value) (s' : Shared), CX w [] H s (fun _ _ _ => False) e s' → False) :
    PySem.W.WalkO q loose XP YP l.row.toRowW d [] (fun f vs => PySem.call f vs) := by
  refine Att.attach_callB hn hdf fun w s₀ s₁ mg mb fa o pm cd doc a vs ns G Y ho hd hcd hmg hobj hints hlen hbits hg => ?_
  have KX := hY w _ Y
  obtain ⟨fd, cs, sp, hT, nT, C, hb, hsp, hF⟩ := F w mg fa _ KX G.T.g hmg fun y c P hy ht => by
    obtain ⟨dd, hdd⟩ := Option.isSome_iff_exists.mp hy
    exact PySem.W.tab_of G.T KX hdd ht
  exact LamX.law_callTs KX G.T.g G.T.b G.T.builtins G.T.nolimit hg hT nT C G.T.bmain hobj hints (Nat.le_trans hlen hn2) hr hF hb (fun H hH hS => hsp H a ns hlen hbits hH hS) fun H e s' => hCX w H s₁ e s'
/-! ### the end, for a law that shows data as texts -/
section
variable {P : Program} {w : World} {K : PySem.W.Frag} {mg mb : Str → Option Value} {k : Nat} {fa a : Addr} {cs : List (Addr × Addr)} {fd : FuncData} {x : Str} {sp : Sp} {s : Shared} {vs : List Value} {ns : List Int}
/-- a code object's table, as the head leaves it -/
abbrev tab0 : Obj := { cls := .none, data := .fields #[] }
/-- what is followed at the law's start: the tables, and the script unless it is written -/
def heap0 (K : PySem.W.Frag) (cs : List (Addr × Addr)) (a : Addr) (vs : List Value) (ns : List Int) : Hp := fun b =>
  if b ∈ cs.map Prod.snd then some (.tbl #[]) else if b = a ∧ K.lookup a = none then some (.frz { cls := .type "list", data := .seq vs.toArray } (.lst (ns.map V.int))) else none
theorem heap0_tab {b : Addr} (h : b ∈ cs.map Prod.snd) : heap0 K cs a vs ns b = some (.tbl #[]) := if_pos h
theorem heap0_scr (n : a ∉ cs.map Prod.snd) (h : K.lookup a = none) : heap0 K cs a vs ns a = some (.frz { cls := .type "list", data := .seq vs.toArray } (.lst (ns.map V.int))) := by
  unfold heap0
  rw [if_neg n, if_pos ⟨rfl, h⟩]
theorem heap0_cases {b : Addr} {u : HO} (h : heap0 K cs a vs ns b = some u) : (b ∈ cs.map Prod.snd ∧ u = .tbl #[]) ∨ (b = a ∧ K.lookup a = none ∧ u = .frz { cls := .type "list", data := .seq vs.toArray } (.lst (ns.map V.int))) := by
  unfold heap0 at h
  split at h
  · exact .inl ⟨by assumption, (Option.some.inj h).symm⟩
  · split at h
    · rename_i z
      exact .inr ⟨z.1, z.2, (Option.some.inj h).symm⟩
    · cases h
theorem lawG_call (kin : K.In s.heap) (glb : s.heap.Ns mainGlobals mg) (blt : s.heap.Ns builtinsNs mb) (std : ∀ x : Str, x ≠ "__name__" → mb x = bootBuiltins x) (nol : s.heap.NoLimit) (gens : s.gens = #[])
    (tabs : ∀ p ∈ cs, s.heap.get? p.2 = some tab0) (offK : ∀ p ∈ cs, K.lookup p.2 = none) (code : ∀ p ∈ cs, PySem.W.CodeHd s.heap p.1 p.2)
    (bmod : ∃ (bm : Addr) (ob : Obj), mg "__builtins__" = some (.ref bm) ∧ bm ≠ builtinsNs ∧ s.heap.get? bm = some ob ∧ ob.cls = .type "module" ∧ ob.dict = some builtinsNs ∧ ob.data = .plain)
    (scr : s.heap.get? a = some { cls := .type "list", data := .seq vs.toArray }) (areI : IntsAre vs ns) (few : ns.length ≤ sizeLine) (room : Room k callerA)
    (F : ∀ base : Heap, K.In base → base.Ns mainGlobals mg → (∀ p ∈ cs, GxR.TabB base mg p.1 p.2) → FnOkG P w K mg base k fa fd [x] sp) (bnd : ∀ (s : Shared) (u : Value), BindsTo s fd ⟨[u], []⟩ [(x, u)])
    (pre : ∀ H : Hp, (∀ p ∈ cs, H p.2 = some (.tbl #[])) → SqL K H a (ns.map V.int) → sp [.ref a] H (fun v _ => v = .bl true) fun _ _ _ => False) :
    codeAny (model P w) callerA (.call (.ref fa) ⟨[.ref a], []⟩) (fun r s' => r = .ok (.ret (.bool true)) ∧ OldK s.heap s'.heap ∧ s'.os = s.os ∧ AllBare s'.gens) s := by
  have tabT : ∀ {b}, b ∈ cs.map Prod.snd → s.heap.get? b = some tab0 := fun {b} hb => by
    obtain ⟨p, hp, rfl⟩ := List.mem_map.mp hb
    exact tabs p hp
  have inT : ∀ {p}, p ∈ cs → p.2 ∈ cs.map Prod.snd := fun {p} hp => List.mem_map.mpr ⟨p, hp, rfl⟩
  have scrT : a ∉ cs.map Prod.snd := fun hb => by
    have z := scr.symm.trans (tabT hb)
    injection Option.some.inj z with z1 _ _ _
    cases z1
  generalize hH : heap0 K cs a vs ns = H
  have onT : ∀ p ∈ cs, H p.2 = some (.tbl #[]) := fun p hp => by rw [← hH]; exact heap0_tab (inT hp)
  -- what else stands in the heap is not followed
  have off : ∀ {b : Addr} {o : Obj}, s.heap.get? b = some o → (∀ q n, o.data ≠ .seq q n) → o.data ≠ .fields #[] → H b = none := fun {b o} hb n1 n2 => by
    cases z : H b with
    | none => rfl
    | some u =>
      rw [← hH] at z
      rcases heap0_cases z with ⟨t, _⟩ | ⟨e, _, _⟩
      · cases (tabT t).symm.trans hb
        exact (n2 rfl).elim
      · rw [e] at hb
        cases scr.symm.trans hb
        exact (n1 _ _ rfl).elim
  have offD : ∀ {b : Addr} {o : Obj} {es : Array DictEntry} {ep : Nat}, s.heap.get? b = some o → o.data = .dict es ep → H b = none := fun {b o es ep} hb hd => off hb (fun q n z => by rw [hd] at z; cases z) (fun z => by rw [hd] at z; cases z)
  have nsB : ∀ {b : Addr} {m : Str → Option Value}, s.heap.Ns b m → (hidT s.heap H).Ns b m := fun {b m} z => by
    obtain ⟨o, es, ep, h1, h2, h3⟩ := z
    exact ⟨o, es, ep, hidT_get h1 (offD h1 h2), h2, h3⟩
  have seq : SqL K H a (ns.map V.int) := by
    have rel := vals_ints areI
    cases z : K.lookup a with
    | none => exact .inl (.inr ⟨_, by rw [← hH]; exact heap0_scr scrT z⟩)
    | some o =>
      cases scr.symm.trans (kin a o z)
      exact .inr ⟨_, vs.toArray, _, z, rfl, rfl, rfl, by rw [List.size_toArray, areI.length]; exact few, by simpa using rel⟩
  have hok : HOk P w H s.heap := fun b u z => by
    rw [← hH] at z
    rcases heap0_cases z with ⟨t, rfl⟩ | ⟨rfl, _, rfl⟩
    · exact tabT t
    · exact ⟨scr, by rw [List.length_map]; exact few, vs, _, vals_ints areI, scr⟩
  have kinB : K.In (hidT s.heap H) := fun b o z => hidT_get (kin b o z) (by
    cases y : H b with
    | none => rfl
    | some u =>
      rw [← hH] at y
      rcases heap0_cases y with ⟨t, _⟩ | ⟨e, n, _⟩
      · obtain ⟨p, hp, rfl⟩ := List.mem_map.mp t
        rw [offK p hp] at z
        cases z
      · rw [e, n] at z
        cases z)
  have tbB : ∀ p ∈ cs, GxR.TabB (hidT s.heap H) mg p.1 p.2 := fun p hp => by
    have tp := tabs p hp
    obtain ⟨og, eg, pg, g1, g2, _⟩ := id glb
    refine ⟨?_, ?_, fun z => ?_⟩
    · obtain ⟨o, q, y1, y2, y3, y4, y5, y6, y7, h1, h2, h3, h4, h5⟩ := code p hp
      refine ⟨o, q, y1, y2, y3, y4, y5, y6, y7, hidT_get h1 (off h1 (fun q n z => by rw [h3] at z; cases z) fun z => ?_), h2, h3, h4, h5⟩
      rw [h3] at z
      cases z
      simp at h4
    · obtain ⟨bm, ob, b1, b2, b3, b4, b5, b6⟩ := bmod
      have d1 : bm ≠ mainGlobals := fun z => by
        rw [z] at b3
        cases g1.symm.trans b3
        rw [g2] at b6
        cases b6
      have d2 : bm ≠ p.2 := fun z => by
        rw [z] at b3
        cases tp.symm.trans b3
        cases b6
      exact ⟨bm, ob, b1, b2, d1, d2, hidT_get b3 (off b3 (fun q n z => by rw [b6] at z; cases z) fun z => by rw [b6] at z; cases z), b4, b5, b6⟩
    · rw [z] at g1
      cases tp.symm.trans g1
      cases g2
  have env : Env0 P w K mg (hidT s.heap H) callerA [] s H := by
    refine ⟨rfl, ⟨kinB, nsB glb, ⟨mb, nsB blt, std⟩, ?_⟩, fun b o z => of_hidT z, Nat.le_of_eq (hidT_size _ _), trivial, fun b hb => absurd (show b ∈ ([] : List Addr) from hb) (List.not_mem_nil), hok, .of_eq gens⟩
    obtain ⟨mc, l1, l2⟩ := nol
    exact ⟨mc, nsB l1, l2⟩
  refine codeAny_mono ((F _ kinB (nsB glb) tbB).go callerA [] s H ⟨[.ref a], []⟩ [.ref a] [.ref a] _ _ rfl room env (bnd s (.ref a)) (.cons rfl .nil) (pre H onT seq)) fun r s' res => ?_
  match r, res with
  | .error e, z => exact z.elim
  | .ok (.ret u), ⟨v, H', os, bare, un, hok', rel, val⟩ =>
    have val' : v = .bl true := val
    subst val'
    obtain rfl : u = Value.bool true := rel
    have stay : ∀ {b : Addr} {o : Obj}, b ∉ cs.map Prod.snd → s.heap.get? b = some o → s'.heap.get? b = some o := fun {b o} nb hb => by
      cases z : H b with
      | none => exact un.keep b o hb z (fun y => absurd (show b ∈ ([] : List Addr) from y) List.not_mem_nil) (by simp)
      | some c =>
        have z0 := z
        rw [← hH] at z0
        rcases heap0_cases z0 with ⟨t, _⟩ | ⟨rfl, _, rfl⟩
        · exact absurd t nb
        · obtain ⟨y, _⟩ := hok' _ _ (un.frzs _ _ _ z)
          cases scr.symm.trans hb
          exact y
    have grow : ∀ {b : Addr}, b ∈ cs.map Prod.snd → isCodeTable s.heap b ∧ ∃ more : Array Value, s'.heap.get? b = some { cls := .none, data := .fields more } := fun {b} hb => by
      obtain ⟨p, hp, rfl⟩ := List.mem_map.mp hb
      obtain ⟨more, z⟩ := un.tbls p.2 #[] (onT p hp)
      exact ⟨((code p hp).tab (tabs p hp)).isCodeTable, _, hok' p.2 _ z⟩
    refine ⟨rfl, ⟨fun b o hb => ?_, fun b o hb => ?_⟩, os, bare⟩
    · by_cases t : b ∈ cs.map Prod.snd
      · obtain ⟨c1, more, c2⟩ := grow t
        cases (tabT t).symm.trans hb
        exact .inr (.inl ⟨c1, rfl, #[], more, rfl, by rw [Array.empty_append]; exact c2⟩)
      · exact .inl (stay t hb)
    · by_cases t : b ∈ cs.map Prod.snd
      · obtain ⟨_, more, c2⟩ := grow t
        exact ⟨_, c2⟩
      · exact ⟨o, stay t hb⟩
end
/-- the law's promise, for a law that shows data -/
def LawAtG (l : PySem.W.OpenLaw) (w : World) (K : PySem.W.Frag) (k n : Nat) (x : Str) (mg : Str → Option Value) (fa : Addr) (h : Heap) : Prop :=
  ∃ (fd : FuncData) (cs : List (Addr × Addr)) (sp : Sp), (∀ p ∈ cs, h.get? p.2 = some tab0) ∧ (∀ p ∈ cs, K.lookup p.2 = none) ∧ (∀ p ∈ cs, PySem.W.CodeHd h p.1 p.2) ∧ (∀ (s : Shared) (u : Value), BindsTo s fd ⟨[u], []⟩ [(x, u)]) ∧
    (∀ (H : Hp) (a : Addr) (ns : List Int), ns.length ≤ n → (∀ p ∈ cs, H p.2 = some (.tbl #[])) → SqL K H a (ns.map V.int) → sp [.ref a] H (fun v _ => v = .bl true) fun _ _ _ => False) ∧
    ∀ base : Heap, K.In base → base.Ns mainGlobals mg → (∀ p ∈ cs, GxR.TabB base mg p.1 p.2) → FnOkG l.prog w K mg base k fa fd [x] sp
theorem walk_ofH {l : PySem.W.OpenLaw} {n k : Nat} {q : Program} {loose : List Str} {XP : (Str → Option Value) → Heap → Prop} {YP : World → Heap → Prop} {d : DefRec} {K : Params → PySem.W.Frag} {x : Str}
    (most : l.most = some n) (few : n ≤ sizeLine) (nodef : d.params.defaults = []) (room : Room k callerA) (hK : ∀ (w : World) (h : Heap), YP w h → (K w.params).In h)
    (F : ∀ (w : World) (mg : Str → Option Value) (fa : Addr) (h : Heap), (K w.params).In h → h.Ns mainGlobals mg → mg d.name = some (.ref fa) →
      (∀ (y : Str) (c P : Addr), ((recsOf q).find? fun e => e.name == y).isSome = true → PySem.W.tabIn (K w.params) y = some (c, P) → PySem.W.CodeHd h c P ∧ h.get? P = some tab0) → LawAtG l w (K w.params) k n x mg fa h) :
    PySem.W.WalkO q loose XP YP l.row.toRowW d [] (fun f vs => PySem.call f vs) := by
  refine Att.attach_callB most nodef fun w s₀ s₁ mg mb fa o pm cd doc a vs ns gr Y _ _ _ named scr areI len _ gens => ?_
  have kin := hK w _ Y
  obtain ⟨fd, cs, sp, h1, h2, h3, h4, h5, h6⟩ := F w mg fa _ kin gr.T.g named fun y c P isR tb => by
    obtain ⟨rec, e⟩ := Option.isSome_iff_exists.mp isR
    exact PySem.W.tab_of gr.T kin e tb
  exact lawG_call kin gr.T.g gr.T.b gr.T.builtins gr.T.nolimit gens h1 h2 h3 gr.T.bmain scr areI (Nat.le_trans len few) room h6 h4 fun H t z => h5 H a ns len t z
/-! ### what the top has written -/
theorem all_mk {l : PySem.W.OpenLaw} {w : World} {q : Program} {K : PySem.W.Frag} {h : Heap} {mg : Str → Option Value} {fa f1 f2 f3 f4 f5 f6 f7 f8 f9 f10 f11 f12 f13 f14 f15 f16 f17 f18 f19 f20 f21 f22 f23 f24 f25 f26 f27 f28 f29 f30 f31 f32 f33 f34 f35 f36 f37 f38 f39 f40 f41 : Addr} (X : K.In h) (G : h.Ns mainGlobals mg) (hfa : mg "law" = some (.ref fa))
    (tabs : ∀ (y : Str) (c P : Addr), ((recsOf q).find? fun e => e.name == y).isSome = true → PySem.W.tabIn K y = some (c, P) → PySem.W.CodeHd h c P ∧ h.get? P = some { cls := .none, data := .fields #[] })
    {od1 an1 od2 an2 od3 an3 od4 an4 od5 an5 od6 an6 od7 an7 od8 an8 od9 an9 od10 an10 od11 an11 od12 an12 od13 an13 od14 an14 od15 an15 od16 an16 od17 an17 od18 an18 od19 an19 od20 an20 od21 an21 od22 an22 od23 an23 od24 an24 od25 an25 od26 an26 od27 an27 od28 an28 od29 an29 od30 an30 od31 an31 od32 an32 od33 an33 od34 an34 od35 an35 od36 an36 od37 an37 od38 an38 od39 an39 od40 an40 od41 an41 : Option Addr} {sl1 sl2 sl3 sl4 sl5 sl6 sl7 sl8 sl9 sl10 sl11 sl12 sl13 sl14 sl15 sl16 sl17 sl18 sl19 sl20 sl21 sl22 sl23 sl24 sl25 sl26 sl27 sl28 sl29 sl30 sl31 sl32 sl33 sl34 sl35 sl36 sl37 sl38 sl39 sl40 sl41 : Array (Option Value)} {oc1 kV1 dc1 pm1 ct1 cd1 oc2 kV2 dc2 pm2 ct2 cd2 oc3 kV3 dc3 pm3 ct3 oc4 kV4 dc4 pm4 ct4 cd4 oc5 kV5 dc5 pm5 ct5 cd5 oc6 kV6 dc6 pm6 ct6 cd6 oc7 kV7 dc7 pm7 ct7 cd7 oc8 kV8 dc8 pm8 ct8 cd8 oc9 kV9 dc9 pm9 ct9 cd9 oc10 kV10 dc10 pm10 ct10 cd10 oc11 kV11 dc11 pm11 ct11 cd11 oc12 kV12 dc12 pm12 ct12 cd12 oc13 kV13 dc13 pm13 ct13 oc14 kV14 dc14 pm14 ct14 cd14 oc15 kV15 dc15 pm15 ct15 cd15 oc16 kV16 dc16 pm16 ct16 cd16 oc17 kV17 dc17 pm17 ct17 cd17 oc18 kV18 dc18 pm18 ct18 cd18 oc19 kV19 dc19 pm19 ct19 cd19 oc20 kV20 dc20 pm20 ct20 cd20 oc21 kV21 dc21 pm21 ct21 cd21 oc22 kV22 dc22 pm22 ct22 oc23 kV23 dc23 pm23 ct23 cd23 oc24 kV24 dc24 pm24 ct24 cd24 oc25 kV25 dc25 pm25 ct25 cd25 oc26 kV26 dc26 pm26 ct26 cd26 oc27 kV27 dc27 pm27 ct27 cd27 oc28 kV28 dc28 pm28 ct28 cd28 oc29 kV29 dc29 pm29 ct29 cd29 oc30 kV30 dc30 pm30 ct30 cd30 oc31 kV31 dc31 pm31 ct31 cd31 oc32 kV32 dc32 pm32 ct32 cd32 oc33 kV33 dc33 pm33 ct33 cd33 oc34 kV34 dc34 pm34 ct34 cd34 oc35 kV35 dc35 pm35 ct35 cd35 oc36 kV36 dc36 pm36 ct36 cd36 oc37 kV37 dc37 pm37 ct37 cd37 oc38 kV38 dc38 pm38 ct38 cd38 oc39 kV39 dc39 pm39 ct39 cd39 oc40 kV40 dc40 pm40 ct40 cd40 oc41 kV41 dc41 pm41 ct41 cd41 : Value}
    {cT3 PT3 : Addr} {eT3 : Value} {dT3 : Option Addr} {vT3 : Array Value} {sT3 : Array (Option Value)}
    {cT13 PT13 : Addr} {eT13 : Value} {dT13 : Option Addr} {vT13 : Array Value} {sT13 : Array (Option Value)}
    {cT22 PT22 : Addr} {eT22 : Value} {dT22 : Option Addr} {vT22 : Array Value} {sT22 : Array (Option Value)}
    (a1 : PySem.W.nsIn K mainGlobals "law" = some (some (.ref f1))) (l1 : K.lookup f1 = some ⟨oc1, od1, .func (PySem.W.fnOf "law" "law" (defArgs s_law) (defBody s_law) (defScope s_law) .none kV1 dc1 pm1 an1 cd1 ct1), sl1⟩) (c1 : PySem.W.codeIn K cd1 "law" = true) (k1 : PySem.W.keepIn K (.ref f1) = true)
    (a2 : PySem.W.nsIn K mainGlobals "names_pack" = some (some (.ref f2))) (l2 : K.lookup f2 = some ⟨oc2, od2, .func (PySem.W.fnOf "names_pack" "names_pack" (defArgs s_names_pack) (defBody s_names_pack) (defScope s_names_pack) .none kV2 dc2 pm2 an2 cd2 ct2), sl2⟩) (c2 : PySem.W.codeIn K cd2 "names_pack" = true) (k2 : PySem.W.keepIn K (.ref f2) = true)
    (a3 : PySem.W.nsIn K mainGlobals "good_tiers" = some (some (.ref f3))) (l3 : K.lookup f3 = some ⟨oc3, od3, .func (PySem.W.fnOf "good_tiers" "good_tiers" (defArgs s_good_tiers) (defBody s_good_tiers) (defScope s_good_tiers) .none kV3 dc3 pm3 an3 (.ref cT3) ct3), sl3⟩) (c3 : PySem.W.codeIn K (.ref cT3) "good_tiers" = true) (k3 : PySem.W.keepIn K (.ref f3) = true)
    (a4 : PySem.W.nsIn K mainGlobals "can_stand" = some (some (.ref f4))) (l4 : K.lookup f4 = some ⟨oc4, od4, .func (PySem.W.fnOf "can_stand" "can_stand" (defArgs s_can_stand) (defBody s_can_stand) (defScope s_can_stand) .none kV4 dc4 pm4 an4 cd4 ct4), sl4⟩) (c4 : PySem.W.codeIn K cd4 "can_stand" = true) (k4 : PySem.W.keepIn K (.ref f4) = true)
    (a5 : PySem.W.nsIn K mainGlobals "look" = some (some (.ref f5))) (l5 : K.lookup f5 = some ⟨oc5, od5, .func (PySem.W.fnOf "look" "look" (defArgs s_look) (defBody s_look) (defScope s_look) .none kV5 dc5 pm5 an5 cd5 ct5), sl5⟩) (c5 : PySem.W.codeIn K cd5 "look" = true) (k5 : PySem.W.keepIn K (.ref f5) = true)
    (a6 : PySem.W.nsIn K mainGlobals "adds_to" = some (some (.ref f6))) (l6 : K.lookup f6 = some ⟨oc6, od6, .func (PySem.W.fnOf "adds_to" "adds_to" (defArgs s_adds_to) (defBody s_adds_to) (defScope s_adds_to) .none kV6 dc6 pm6 an6 cd6 ct6), sl6⟩) (c6 : PySem.W.codeIn K cd6 "adds_to" = true) (k6 : PySem.W.keepIn K (.ref f6) = true)
    (a7 : PySem.W.nsIn K mainGlobals "choices" = some (some (.ref f7))) (l7 : K.lookup f7 = some ⟨oc7, od7, .func (PySem.W.fnOf "choices" "choices" (defArgs s_choices) (defBody s_choices) (defScope s_choices) .none kV7 dc7 pm7 an7 cd7 ct7), sl7⟩) (c7 : PySem.W.codeIn K cd7 "choices" = true) (k7 : PySem.W.keepIn K (.ref f7) = true)
    (a8 : PySem.W.nsIn K mainGlobals "lines_at" = some (some (.ref f8))) (l8 : K.lookup f8 = some ⟨oc8, od8, .func (PySem.W.fnOf "lines_at" "lines_at" (defArgs s_lines_at) (defBody s_lines_at) (defScope s_lines_at) .none kV8 dc8 pm8 an8 cd8 ct8), sl8⟩) (c8 : PySem.W.codeIn K cd8 "lines_at" = true) (k8 : PySem.W.keepIn K (.ref f8) = true)
    (a9 : PySem.W.nsIn K mainGlobals "lines" = some (some (.ref f9))) (l9 : K.lookup f9 = some ⟨oc9, od9, .func (PySem.W.fnOf "lines" "lines" (defArgs s_lines) (defBody s_lines) (defScope s_lines) .none kV9 dc9 pm9 an9 cd9 ct9), sl9⟩) (c9 : PySem.W.codeIn K cd9 "lines" = true) (k9 : PySem.W.keepIn K (.ref f9) = true)
    (a10 : PySem.W.nsIn K mainGlobals "together" = some (some (.ref f10))) (l10 : K.lookup f10 = some ⟨oc10, od10, .func (PySem.W.fnOf "together" "together" (defArgs s_together) (defBody s_together) (defScope s_together) .none kV10 dc10 pm10 an10 cd10 ct10), sl10⟩) (c10 : PySem.W.codeIn K cd10 "together" = true) (k10 : PySem.W.keepIn K (.ref f10) = true)
    (a11 : PySem.W.nsIn K mainGlobals "content_of" = some (some (.ref f11))) (l11 : K.lookup f11 = some ⟨oc11, od11, .func (PySem.W.fnOf "content_of" "content_of" (defArgs s_content_of) (defBody s_content_of) (defScope s_content_of) .none kV11 dc11 pm11 an11 cd11 ct11), sl11⟩) (c11 : PySem.W.codeIn K cd11 "content_of" = true) (k11 : PySem.W.keepIn K (.ref f11) = true)
    (a12 : PySem.W.nsIn K mainGlobals "piece_price" = some (some (.ref f12))) (l12 : K.lookup f12 = some ⟨oc12, od12, .func (PySem.W.fnOf "piece_price" "piece_price" (defArgs s_piece_price) (defBody s_piece_price) (defScope s_piece_price) .none kV12 dc12 pm12 an12 cd12 ct12), sl12⟩) (c12 : PySem.W.codeIn K cd12 "piece_price" = true) (k12 : PySem.W.keepIn K (.ref f12) = true)
    (a13 : PySem.W.nsIn K mainGlobals "price_of" = some (some (.ref f13))) (l13 : K.lookup f13 = some ⟨oc13, od13, .func (PySem.W.fnOf "price_of" "price_of" (defArgs s_price_of) (defBody s_price_of) (defScope s_price_of) .none kV13 dc13 pm13 an13 (.ref cT13) ct13), sl13⟩) (c13 : PySem.W.codeIn K (.ref cT13) "price_of" = true) (k13 : PySem.W.keepIn K (.ref f13) = true)
    (a14 : PySem.W.nsIn K mainGlobals "priced_lines" = some (some (.ref f14))) (l14 : K.lookup f14 = some ⟨oc14, od14, .func (PySem.W.fnOf "priced_lines" "priced_lines" (defArgs s_priced_lines) (defBody s_priced_lines) (defScope s_priced_lines) .none kV14 dc14 pm14 an14 cd14 ct14), sl14⟩) (c14 : PySem.W.codeIn K cd14 "priced_lines" = true) (k14 : PySem.W.keepIn K (.ref f14) = true)
    (a15 : PySem.W.nsIn K mainGlobals "had" = some (some (.ref f15))) (l15 : K.lookup f15 = some ⟨oc15, od15, .func (PySem.W.fnOf "had" "had" (defArgs s_had) (defBody s_had) (defScope s_had) .none kV15 dc15 pm15 an15 cd15 ct15), sl15⟩) (c15 : PySem.W.codeIn K cd15 "had" = true) (k15 : PySem.W.keepIn K (.ref f15) = true)
    (a16 : PySem.W.nsIn K mainGlobals "rest" = some (some (.ref f16))) (l16 : K.lookup f16 = some ⟨oc16, od16, .func (PySem.W.fnOf "rest" "rest" (defArgs s_rest) (defBody s_rest) (defScope s_rest) .none kV16 dc16 pm16 an16 cd16 ct16), sl16⟩) (c16 : PySem.W.codeIn K cd16 "rest" = true) (k16 : PySem.W.keepIn K (.ref f16) = true)
    (a17 : PySem.W.nsIn K mainGlobals "lesser" = some (some (.ref f17))) (l17 : K.lookup f17 = some ⟨oc17, od17, .func (PySem.W.fnOf "lesser" "lesser" (defArgs s_lesser) (defBody s_lesser) (defScope s_lesser) .none kV17 dc17 pm17 an17 cd17 ct17), sl17⟩) (c17 : PySem.W.codeIn K cd17 "lesser" = true) (k17 : PySem.W.keepIn K (.ref f17) = true)
    (a18 : PySem.W.nsIn K mainGlobals "best_step" = some (some (.ref f18))) (l18 : K.lookup f18 = some ⟨oc18, od18, .func (PySem.W.fnOf "best_step" "best_step" (defArgs s_best_step) (defBody s_best_step) (defScope s_best_step) .none kV18 dc18 pm18 an18 cd18 ct18), sl18⟩) (c18 : PySem.W.codeIn K cd18 "best_step" = true) (k18 : PySem.W.keepIn K (.ref f18) = true)
    (a19 : PySem.W.nsIn K mainGlobals "all_steps" = some (some (.ref f19))) (l19 : K.lookup f19 = some ⟨oc19, od19, .func (PySem.W.fnOf "all_steps" "all_steps" (defArgs s_all_steps) (defBody s_all_steps) (defScope s_all_steps) .none kV19 dc19 pm19 an19 cd19 ct19), sl19⟩) (c19 : PySem.W.codeIn K cd19 "all_steps" = true) (k19 : PySem.W.keepIn K (.ref f19) = true)
    (a20 : PySem.W.nsIn K mainGlobals "cases" = some (some (.ref f20))) (l20 : K.lookup f20 = some ⟨oc20, od20, .func (PySem.W.fnOf "cases" "cases" (defArgs s_cases) (defBody s_cases) (defScope s_cases) .none kV20 dc20 pm20 an20 cd20 ct20), sl20⟩) (c20 : PySem.W.codeIn K cd20 "cases" = true) (k20 : PySem.W.keepIn K (.ref f20) = true)
    (a21 : PySem.W.nsIn K mainGlobals "holds" = some (some (.ref f21))) (l21 : K.lookup f21 = some ⟨oc21, od21, .func (PySem.W.fnOf "holds" "holds" (defArgs s_holds) (defBody s_holds) (defScope s_holds) .none kV21 dc21 pm21 an21 cd21 ct21), sl21⟩) (c21 : PySem.W.codeIn K cd21 "holds" = true) (k21 : PySem.W.keepIn K (.ref f21) = true)
    (a22 : PySem.W.nsIn K mainGlobals "shows" = some (some (.ref f22))) (l22 : K.lookup f22 = some ⟨oc22, od22, .func (PySem.W.fnOf "shows" "shows" (defArgs s_shows) (defBody s_shows) (defScope s_shows) .none kV22 dc22 pm22 an22 (.ref cT22) ct22), sl22⟩) (c22 : PySem.W.codeIn K (.ref cT22) "shows" = true) (k22 : PySem.W.keepIn K (.ref f22) = true)
    (a23 : PySem.W.nsIn K mainGlobals "_law_mix" = some (some (.ref f23))) (l23 : K.lookup f23 = some ⟨oc23, od23, .func (PySem.W.fnOf "_law_mix" "_law_mix" (defArgs s_law_mix) (defBody s_law_mix) (defScope s_law_mix) .none kV23 dc23 pm23 an23 cd23 ct23), sl23⟩) (c23 : PySem.W.codeIn K cd23 "_law_mix" = true) (k23 : PySem.W.keepIn K (.ref f23) = true)
    (a24 : PySem.W.nsIn K mainGlobals "_law_draws" = some (some (.ref f24))) (l24 : K.lookup f24 = some ⟨oc24, od24, .func (PySem.W.fnOf "_law_draws" "_law_draws" (defArgs s_law_draws) (defBody s_law_draws) (defScope s_law_draws) .none kV24 dc24 pm24 an24 cd24 ct24), sl24⟩) (c24 : PySem.W.codeIn K cd24 "_law_draws" = true) (k24 : PySem.W.keepIn K (.ref f24) = true)
    (a25 : PySem.W.nsIn K mainGlobals "_law_pop" = some (some (.ref f25))) (l25 : K.lookup f25 = some ⟨oc25, od25, .func (PySem.W.fnOf "_law_pop" "_law_pop" (defArgs s_law_pop) (defBody s_law_pop) (defScope s_law_pop) .none kV25 dc25 pm25 an25 cd25 ct25), sl25⟩) (c25 : PySem.W.codeIn K cd25 "_law_pop" = true) (k25 : PySem.W.keepIn K (.ref f25) = true)
    (a26 : PySem.W.nsIn K mainGlobals "_law_cut" = some (some (.ref f26))) (l26 : K.lookup f26 = some ⟨oc26, od26, .func (PySem.W.fnOf "_law_cut" "_law_cut" (defArgs s_law_cut) (defBody s_law_cut) (defScope s_law_cut) .none kV26 dc26 pm26 an26 cd26 ct26), sl26⟩) (c26 : PySem.W.codeIn K cd26 "_law_cut" = true) (k26 : PySem.W.keepIn K (.ref f26) = true)
    (a27 : PySem.W.nsIn K mainGlobals "_law_content" = some (some (.ref f27))) (l27 : K.lookup f27 = some ⟨oc27, od27, .func (PySem.W.fnOf "_law_content" "_law_content" (defArgs s_law_content) (defBody s_law_content) (defScope s_law_content) .none kV27 dc27 pm27 an27 cd27 ct27), sl27⟩) (c27 : PySem.W.codeIn K cd27 "_law_content" = true) (k27 : PySem.W.keepIn K (.ref f27) = true)
    (a28 : PySem.W.nsIn K mainGlobals "_law_price" = some (some (.ref f28))) (l28 : K.lookup f28 = some ⟨oc28, od28, .func (PySem.W.fnOf "_law_price" "_law_price" (defArgs s_law_price) (defBody s_law_price) (defScope s_law_price) .none kV28 dc28 pm28 an28 cd28 ct28), sl28⟩) (c28 : PySem.W.codeIn K cd28 "_law_price" = true) (k28 : PySem.W.keepIn K (.ref f28) = true)
    (a29 : PySem.W.nsIn K mainGlobals "_law_tiers" = some (some (.ref f29))) (l29 : K.lookup f29 = some ⟨oc29, od29, .func (PySem.W.fnOf "_law_tiers" "_law_tiers" (defArgs s_law_tiers) (defBody s_law_tiers) (defScope s_law_tiers) .none kV29 dc29 pm29 an29 cd29 ct29), sl29⟩) (c29 : PySem.W.codeIn K cd29 "_law_tiers" = true) (k29 : PySem.W.keepIn K (.ref f29) = true)
    (a30 : PySem.W.nsIn K mainGlobals "_law_shop" = some (some (.ref f30))) (l30 : K.lookup f30 = some ⟨oc30, od30, .func (PySem.W.fnOf "_law_shop" "_law_shop" (defArgs s_law_shop) (defBody s_law_shop) (defScope s_law_shop) .none kV30 dc30 pm30 an30 cd30 ct30), sl30⟩) (c30 : PySem.W.codeIn K cd30 "_law_shop" = true) (k30 : PySem.W.keepIn K (.ref f30) = true)
    (a31 : PySem.W.nsIn K mainGlobals "_law_want" = some (some (.ref f31))) (l31 : K.lookup f31 = some ⟨oc31, od31, .func (PySem.W.fnOf "_law_want" "_law_want" (defArgs s_law_want) (defBody s_law_want) (defScope s_law_want) .none kV31 dc31 pm31 an31 cd31 ct31), sl31⟩) (c31 : PySem.W.codeIn K cd31 "_law_want" = true) (k31 : PySem.W.keepIn K (.ref f31) = true)
    (a32 : PySem.W.nsIn K mainGlobals "_law_groups" = some (some (.ref f32))) (l32 : K.lookup f32 = some ⟨oc32, od32, .func (PySem.W.fnOf "_law_groups" "_law_groups" (defArgs s_law_groups) (defBody s_law_groups) (defScope s_law_groups) .none kV32 dc32 pm32 an32 cd32 ct32), sl32⟩) (c32 : PySem.W.codeIn K cd32 "_law_groups" = true) (k32 : PySem.W.keepIn K (.ref f32) = true)
    (a33 : PySem.W.nsIn K mainGlobals "_law_sum" = some (some (.ref f33))) (l33 : K.lookup f33 = some ⟨oc33, od33, .func (PySem.W.fnOf "_law_sum" "_law_sum" (defArgs s_law_sum) (defBody s_law_sum) (defScope s_law_sum) .none kV33 dc33 pm33 an33 cd33 ct33), sl33⟩) (c33 : PySem.W.codeIn K cd33 "_law_sum" = true) (k33 : PySem.W.keepIn K (.ref f33) = true)
    (a34 : PySem.W.nsIn K mainGlobals "_law_lines" = some (some (.ref f34))) (l34 : K.lookup f34 = some ⟨oc34, od34, .func (PySem.W.fnOf "_law_lines" "_law_lines" (defArgs s_law_lines) (defBody s_law_lines) (defScope s_law_lines) .none kV34 dc34 pm34 an34 cd34 ct34), sl34⟩) (c34 : PySem.W.codeIn K cd34 "_law_lines" = true) (k34 : PySem.W.keepIn K (.ref f34) = true)
    (a35 : PySem.W.nsIn K mainGlobals "_law_lesser" = some (some (.ref f35))) (l35 : K.lookup f35 = some ⟨oc35, od35, .func (PySem.W.fnOf "_law_lesser" "_law_lesser" (defArgs s_law_lesser) (defBody s_law_lesser) (defScope s_law_lesser) .none kV35 dc35 pm35 an35 cd35 ct35), sl35⟩) (c35 : PySem.W.codeIn K cd35 "_law_lesser" = true) (k35 : PySem.W.keepIn K (.ref f35) = true)
    (a36 : PySem.W.nsIn K mainGlobals "_law_rest" = some (some (.ref f36))) (l36 : K.lookup f36 = some ⟨oc36, od36, .func (PySem.W.fnOf "_law_rest" "_law_rest" (defArgs s_law_rest) (defBody s_law_rest) (defScope s_law_rest) .none kV36 dc36 pm36 an36 cd36 ct36), sl36⟩) (c36 : PySem.W.codeIn K cd36 "_law_rest" = true) (k36 : PySem.W.keepIn K (.ref f36) = true)
    (a37 : PySem.W.nsIn K mainGlobals "_law_case" = some (some (.ref f37))) (l37 : K.lookup f37 = some ⟨oc37, od37, .func (PySem.W.fnOf "_law_case" "_law_case" (defArgs s_law_case) (defBody s_law_case) (defScope s_law_case) .none kV37 dc37 pm37 an37 cd37 ct37), sl37⟩) (c37 : PySem.W.codeIn K cd37 "_law_case" = true) (k37 : PySem.W.keepIn K (.ref f37) = true)
    (a38 : PySem.W.nsIn K mainGlobals "_law_shows" = some (some (.ref f38))) (l38 : K.lookup f38 = some ⟨oc38, od38, .func (PySem.W.fnOf "_law_shows" "_law_shows" (defArgs s_law_shows) (defBody s_law_shows) (defScope s_law_shows) .none kV38 dc38 pm38 an38 cd38 ct38), sl38⟩) (c38 : PySem.W.codeIn K cd38 "_law_shows" = true) (k38 : PySem.W.keepIn K (.ref f38) = true)
    (a39 : PySem.W.nsIn K mainGlobals "_law_one_bent" = some (some (.ref f39))) (l39 : K.lookup f39 = some ⟨oc39, od39, .func (PySem.W.fnOf "_law_one_bent" "_law_one_bent" (defArgs s_law_one_bent) (defBody s_law_one_bent) (defScope s_law_one_bent) .none kV39 dc39 pm39 an39 cd39 ct39), sl39⟩) (c39 : PySem.W.codeIn K cd39 "_law_one_bent" = true) (k39 : PySem.W.keepIn K (.ref f39) = true)
    (a40 : PySem.W.nsIn K mainGlobals "_law_less" = some (some (.ref f40))) (l40 : K.lookup f40 = some ⟨oc40, od40, .func (PySem.W.fnOf "_law_less" "_law_less" (defArgs s_law_less) (defBody s_law_less) (defScope s_law_less) .none kV40 dc40 pm40 an40 cd40 ct40), sl40⟩) (c40 : PySem.W.codeIn K cd40 "_law_less" = true) (k40 : PySem.W.keepIn K (.ref f40) = true)
    (a41 : PySem.W.nsIn K mainGlobals "_law_bent" = some (some (.ref f41))) (l41 : K.lookup f41 = some ⟨oc41, od41, .func (PySem.W.fnOf "_law_bent" "_law_bent" (defArgs s_law_bent) (defBody s_law_bent) (defScope s_law_bent) .none kV41 dc41 pm41 an41 cd41 ct41), sl41⟩) (c41 : PySem.W.codeIn K cd41 "_law_bent" = true) (k41 : PySem.W.keepIn K (.ref f41) = true)
    (lc3 : K.lookup cT3 = some ⟨eT3, dT3, .fields vT3, sT3⟩) (hv3 : vT3[11]? = some (.ref PT3)) (nt3 : (K.lookup PT3).isNone = true) (rc3 : ((recsOf q).find? fun e => e.name == ("good_tiers" : Str)).isSome = true)
    (lc13 : K.lookup cT13 = some ⟨eT13, dT13, .fields vT13, sT13⟩) (hv13 : vT13[11]? = some (.ref PT13)) (nt13 : (K.lookup PT13).isNone = true) (rc13 : ((recsOf q).find? fun e => e.name == ("price_of" : Str)).isSome = true)
    (lc22 : K.lookup cT22 = some ⟨eT22, dT22, .fields vT22, sT22⟩) (hv22 : vT22[11]? = some (.ref PT22)) (nt22 : (K.lookup PT22).isNone = true) (rc22 : ((recsOf q).find? fun e => e.name == ("shows" : Str)).isSome = true)
    (z1 : PySem.W.nsIn K mainGlobals "len" = some none)
    (z2 : PySem.W.nsIn K mainGlobals "range" = some none)
    (z3 : PySem.W.nsIn K mainGlobals "max" = some none)
    (z4 : PySem.W.nsIn K mainGlobals "list" = some none)
    (z5 : PySem.W.nsIn K mainGlobals "isinstance" = some none)
    (z6 : PySem.W.nsIn K mainGlobals "int" = some none)
    (z7 : PySem.W.nsIn K mainGlobals "bool" = some none)
    (z8 : PySem.W.nsIn K mainGlobals "enumerate" = some none)
    (z9 : PySem.W.nsIn K mainGlobals "all" = some none)
    (z10 : PySem.W.nsIn K mainGlobals "zip" = some none)
    (z11 : PySem.W.nsIn K mainGlobals "reversed" = some none)
    (z12 : PySem.W.nsIn K mainGlobals "sum" = some none)
    (z13 : PySem.W.nsIn K mainGlobals "sorted" = some none)
    (z14 : PySem.W.nsIn K mainGlobals "tuple" = some none)
    (z15 : PySem.W.nsIn K mainGlobals "any" = some none)
    (z16 : PySem.W.nsIn K mainGlobals "min" = some none)
    (z17 : PySem.W.nsIn K mainGlobals "str" = some none)
    (z18 : PySem.W.nsIn K mainGlobals "abs" = some none)
    {tk1 : Tok} (q1 : PySem.W.nsIn K mainGlobals "MOST_TIERS" = some (some (.int 4 tk1)))
    {tk2 : Tok} (q2 : PySem.W.nsIn K mainGlobals "MOST_PIECES" = some (some (.int 12 tk2)))
    : LawAtG l w K 10 63 "_law_script" mg fa h := by
  have e := hfa.symm.trans (PySem.W.mg_of X G a1)
  cases e
  have F1 := fun_mk (st := s_law) l1 c1 k1
  have b1 := F1.binds (ps := ["_law_script"]) fun _ _ _ _ _ _ us hl => match us, hl with | [_], _ => rfl
  have F2 := fun_mk (st := s_names_pack) l2 c2 k2
  have b2 := F2.binds (ps := ["shop", "at"]) fun _ _ _ _ _ _ us hl => match us, hl with | [_, _], _ => rfl
  have F3 := fun_mk (st := s_good_tiers) l3 c3 k3
  have b3 := F3.binds (ps := ["tiers"]) fun _ _ _ _ _ _ us hl => match us, hl with | [_], _ => rfl
  have F4 := fun_mk (st := s_can_stand) l4 c4 k4
  have b4 := F4.binds (ps := ["shop", "at"]) fun _ _ _ _ _ _ us hl => match us, hl with | [_, _], _ => rfl
  have F5 := fun_mk (st := s_look) l5 c5 k5
  have b5 := F5.binds (ps := ["shop"]) fun _ _ _ _ _ _ us hl => match us, hl with | [_], _ => rfl
  have F6 := fun_mk (st := s_adds_to) l6 c6 k6
  have b6 := F6.binds (ps := ["shop", "place"]) fun _ _ _ _ _ _ us hl => match us, hl with | [_, _], _ => rfl
  have F7 := fun_mk (st := s_choices) l7 c7 k7
  have b7 := F7.binds (ps := ["places"]) fun _ _ _ _ _ _ us hl => match us, hl with | [_], _ => rfl
  have F8 := fun_mk (st := s_lines_at) l8 c8 k8
  have b8 := F8.binds (ps := ["shop", "place"]) fun _ _ _ _ _ _ us hl => match us, hl with | [_, _], _ => rfl
  have F9 := fun_mk (st := s_lines) l9 c9 k9
  have b9 := F9.binds (ps := ["shop"]) fun _ _ _ _ _ _ us hl => match us, hl with | [_], _ => rfl
  have F10 := fun_mk (st := s_together) l10 c10 k10
  have b10 := F10.binds (ps := ["content", "other"]) fun _ _ _ _ _ _ us hl => match us, hl with | [_, _], _ => rfl
  have F11 := fun_mk (st := s_content_of) l11 c11 k11
  have b11 := F11.binds (ps := ["shop", "line"]) fun _ _ _ _ _ _ us hl => match us, hl with | [_, _], _ => rfl
  have F12 := fun_mk (st := s_piece_price) l12 c12 k12
  have b12 := F12.binds (ps := ["tiers", "count"]) fun _ _ _ _ _ _ us hl => match us, hl with | [_, _], _ => rfl
  have F13 := fun_mk (st := s_price_of) l13 c13 k13
  have b13 := F13.binds (ps := ["shop", "line"]) fun _ _ _ _ _ _ us hl => match us, hl with | [_, _], _ => rfl
  have F14 := fun_mk (st := s_priced_lines) l14 c14 k14
  have b14 := F14.binds (ps := ["shop"]) fun _ _ _ _ _ _ us hl => match us, hl with | [_], _ => rfl
  have F15 := fun_mk (st := s_had) l15 c15 k15
  have b15 := F15.binds (ps := ["content", "thing"]) fun _ _ _ _ _ _ us hl => match us, hl with | [_, _], _ => rfl
  have F16 := fun_mk (st := s_rest) l16 c16 k16
  have b16 := F16.binds (ps := ["want", "content"]) fun _ _ _ _ _ _ us hl => match us, hl with | [_, _], _ => rfl
  have F17 := fun_mk (st := s_lesser) l17 c17 k17
  have b17 := F17.binds (ps := ["want"]) fun _ _ _ _ _ _ us hl => match us, hl with | [_], _ => rfl
  have F18 := fun_mk (st := s_best_step) l18 c18 k18
  have b18 := F18.binds (ps := ["less", "priced", "steps"]) fun _ _ _ _ _ _ us hl => match us, hl with | [_, _, _], _ => rfl
  have F19 := fun_mk (st := s_all_steps) l19 c19 k19
  have b19 := F19.binds (ps := ["priced", "want"]) fun _ _ _ _ _ _ us hl => match us, hl with | [_, _], _ => rfl
  have F20 := fun_mk (st := s_cases) l20 c20 k20
  have b20 := F20.binds (ps := ["shop", "want"]) fun _ _ _ _ _ _ us hl => match us, hl with | [_, _], _ => rfl
  have F21 := fun_mk (st := s_holds) l21 c21 k21
  have b21 := F21.binds (ps := ["less", "number", "priced", "numbers"]) fun _ _ _ _ _ _ us hl => match us, hl with | [_, _, _, _], _ => rfl
  have F22 := fun_mk (st := s_shows) l22 c22 k22
  have b22 := F22.binds (ps := ["shop", "want", "table"]) fun _ _ _ _ _ _ us hl => match us, hl with | [_, _, _], _ => rfl
  have F23 := fun_mk (st := s_law_mix) l23 c23 k23
  have b23 := F23.binds (ps := ["_law_cell", "_law_turn"]) fun _ _ _ _ _ _ us hl => match us, hl with | [_, _], _ => rfl
  have F24 := fun_mk (st := s_law_draws) l24 c24 k24
  have b24 := F24.binds (ps := ["_law_script", "_law_turn", "_law_many"]) fun _ _ _ _ _ _ us hl => match us, hl with | [_, _, _], _ => rfl
  have F25 := fun_mk (st := s_law_pop) l25 c25 k25
  have b25 := F25.binds (ps := ["_law_draws_here"]) fun _ _ _ _ _ _ us hl => match us, hl with | [_], _ => rfl
  have F26 := fun_mk (st := s_law_cut) l26 c26 k26
  have b26 := F26.binds (ps := ["_law_row"]) fun _ _ _ _ _ _ us hl => match us, hl with | [_], _ => rfl
  have F27 := fun_mk (st := s_law_content) l27 c27 k27
  have b27 := F27.binds (ps := ["_law_draws_here", "_law_many", "_law_most"]) fun _ _ _ _ _ _ us hl => match us, hl with | [_, _, _], _ => rfl
  have F28 := fun_mk (st := s_law_price) l28 c28 k28
  have b28 := F28.binds (ps := ["_law_draws_here"]) fun _ _ _ _ _ _ us hl => match us, hl with | [_], _ => rfl
  have F29 := fun_mk (st := s_law_tiers) l29 c29 k29
  have b29 := F29.binds (ps := ["_law_draws_here"]) fun _ _ _ _ _ _ us hl => match us, hl with | [_], _ => rfl
  have F30 := fun_mk (st := s_law_shop) l30 c30 k30
  have b30 := F30.binds (ps := ["_law_draws_here", "_law_many", "_law_most"]) fun _ _ _ _ _ _ us hl => match us, hl with | [_, _, _], _ => rfl
  have F31 := fun_mk (st := s_law_want) l31 c31 k31
  have b31 := F31.binds (ps := ["_law_draws_here", "_law_many"]) fun _ _ _ _ _ _ us hl => match us, hl with | [_, _], _ => rfl
  have F32 := fun_mk (st := s_law_groups) l32 c32 k32
  have b32 := F32.binds (ps := ["_law_places"]) fun _ _ _ _ _ _ us hl => match us, hl with | [_], _ => rfl
  have F33 := fun_mk (st := s_law_sum) l33 c33 k33
  have b33 := F33.binds (ps := ["_law_one", "_law_other"]) fun _ _ _ _ _ _ us hl => match us, hl with | [_, _], _ => rfl
  have F34 := fun_mk (st := s_law_lines) l34 c34 k34
  have b34 := F34.binds (ps := ["_law_shop_here"]) fun _ _ _ _ _ _ us hl => match us, hl with | [_], _ => rfl
  have F35 := fun_mk (st := s_law_lesser) l35 c35 k35
  have b35 := F35.binds (ps := ["_law_want_here"]) fun _ _ _ _ _ _ us hl => match us, hl with | [_], _ => rfl
  have F36 := fun_mk (st := s_law_rest) l36 c36 k36
  have b36 := F36.binds (ps := ["_law_want_here", "_law_content_here"]) fun _ _ _ _ _ _ us hl => match us, hl with | [_, _], _ => rfl
  have F37 := fun_mk (st := s_law_case) l37 c37 k37
  have b37 := F37.binds (ps := ["_law_script", "_law_many_draws"]) fun _ _ _ _ _ _ us hl => match us, hl with | [_, _], _ => rfl
  have F38 := fun_mk (st := s_law_shows) l38 c38 k38
  have b38 := F38.binds (ps := ["_law_shop_here", "_law_want_here", "_law_table"]) fun _ _ _ _ _ _ us hl => match us, hl with | [_, _, _], _ => rfl
  have F39 := fun_mk (st := s_law_one_bent) l39 c39 k39
  have b39 := F39.binds (ps := ["_law_table", "_law_draws_here"]) fun _ _ _ _ _ _ us hl => match us, hl with | [_, _], _ => rfl
  have F40 := fun_mk (st := s_law_less) l40 c40 k40
  have b40 := F40.binds (ps := ["_law_number", "_law_by"]) fun _ _ _ _ _ _ us hl => match us, hl with | [_, _], _ => rfl
  have F41 := fun_mk (st := s_law_bent) l41 c41 k41
  have b41 := F41.binds (ps := ["_law_table", "_law_draws_here"]) fun _ _ _ _ _ _ us hl => match us, hl with | [_, _], _ => rfl
  have M : Names mg := ⟨PySem.W.mg_none_of X G z1, PySem.W.mg_none_of X G z2, PySem.W.mg_none_of X G z3, PySem.W.mg_none_of X G z4, PySem.W.mg_none_of X G z5, PySem.W.mg_none_of X G z6, PySem.W.mg_none_of X G z7, PySem.W.mg_none_of X G z8, PySem.W.mg_none_of X G z9, PySem.W.mg_none_of X G z10, PySem.W.mg_none_of X G z11, PySem.W.mg_none_of X G z12, PySem.W.mg_none_of X G z13, PySem.W.mg_none_of X G z14, PySem.W.mg_none_of X G z15, PySem.W.mg_none_of X G z16, PySem.W.mg_none_of X G z17, PySem.W.mg_none_of X G z18, ⟨_, PySem.W.mg_of X G q1⟩, ⟨_, PySem.W.mg_of X G q2⟩⟩
  obtain ⟨hd3, ht3⟩ := tabs "good_tiers" cT3 PT3 rc3 (tabIn_of a3 l3 rfl lc3 hv3)
  obtain ⟨hd13, ht13⟩ := tabs "price_of" cT13 PT13 rc13 (tabIn_of a13 l13 rfl lc13 hv13)
  obtain ⟨hd22, ht22⟩ := tabs "shows" cT22 PT22 rc22 (tabIn_of a22 l22 rfl lc22 hv22)
  refine ⟨PySem.W.fnOf "law" "law" (defArgs s_law) (defBody s_law) (defScope s_law) .none kV1 dc1 pm1 an1 cd1 ct1, [(cT3, PT3), (cT13, PT13), (cT22, PT22)], sp_law K PT3 PT13 PT22, ?hT, ?nT, ?hC, fun s v => .of_eq rfl, fun H a ns hl hT hS => ⟨a, ns, rfl, hS, hl, ⟨#[], hT (cT3, PT3) List.mem_cons_self, True.intro⟩, ⟨#[], hT (cT13, PT13) (List.mem_cons_of_mem _ List.mem_cons_self), True.intro⟩, ⟨#[], hT (cT22, PT22) (List.mem_cons_of_mem _ (List.mem_cons_of_mem _ List.mem_cons_self)), True.intro⟩, fun _ => rfl⟩, fun base _ _ hB => ?_⟩
  case hT =>
    exact fun p hp => by
      rcases List.mem_cons.mp hp with rfl | hp
      · exact ht3
      rcases List.mem_cons.mp hp with rfl | hp
      · exact ht13
      rcases List.mem_cons.mp hp with rfl | hp
      · exact ht22
      cases hp
  case nT =>
    exact fun p hp => by
      rcases List.mem_cons.mp hp with rfl | hp
      · exact Option.isNone_iff_eq_none.mp nt3
      rcases List.mem_cons.mp hp with rfl | hp
      · exact Option.isNone_iff_eq_none.mp nt13
      rcases List.mem_cons.mp hp with rfl | hp
      · exact Option.isNone_iff_eq_none.mp nt22
      cases hp
  case hC =>
    exact fun p hp => by
      rcases List.mem_cons.mp hp with rfl | hp
      · exact hd3
      rcases List.mem_cons.mp hp with rfl | hp
      · exact hd13
      rcases List.mem_cons.mp hp with rfl | hp
      · exact hd22
      cases hp
  have T3 := hB (cT3, PT3) List.mem_cons_self
  have T13 := hB (cT13, PT13) (List.mem_cons_of_mem _ List.mem_cons_self)
  have T22 := hB (cT22, PT22) (List.mem_cons_of_mem _ (List.mem_cons_of_mem _ List.mem_cons_self))
  exact ok_law M ⟨F1, PySem.W.mg_of X G a1, b1⟩ ⟨F2, PySem.W.mg_of X G a2, b2⟩ ⟨F3, PySem.W.mg_of X G a3, b3⟩ ⟨F4, PySem.W.mg_of X G a4, b4⟩ ⟨F5, PySem.W.mg_of X G a5, b5⟩ ⟨F6, PySem.W.mg_of X G a6, b6⟩ ⟨F7, PySem.W.mg_of X G a7, b7⟩ ⟨F8, PySem.W.mg_of X G a8, b8⟩ ⟨F9, PySem.W.mg_of X G a9, b9⟩ ⟨F10, PySem.W.mg_of X G a10, b10⟩ ⟨F11, PySem.W.mg_of X G a11, b11⟩ ⟨F12, PySem.W.mg_of X G a12, b12⟩ ⟨F13, PySem.W.mg_of X G a13, b13⟩ ⟨F14, PySem.W.mg_of X G a14, b14⟩ ⟨F15, PySem.W.mg_of X G a15, b15⟩ ⟨F16, PySem.W.mg_of X G a16, b16⟩ ⟨F17, PySem.W.mg_of X G a17, b17⟩ ⟨F18, PySem.W.mg_of X G a18, b18⟩ ⟨F19, PySem.W.mg_of X G a19, b19⟩ ⟨F20, PySem.W.mg_of X G a20, b20⟩ ⟨F21, PySem.W.mg_of X G a21, b21⟩ ⟨F22, PySem.W.mg_of X G a22, b22⟩ ⟨F23, PySem.W.mg_of X G a23, b23⟩ ⟨F24, PySem.W.mg_of X G a24, b24⟩ ⟨F25, PySem.W.mg_of X G a25, b25⟩ ⟨F26, PySem.W.mg_of X G a26, b26⟩ ⟨F27, PySem.W.mg_of X G a27, b27⟩ ⟨F28, PySem.W.mg_of X G a28, b28⟩ ⟨F29, PySem.W.mg_of X G a29, b29⟩ ⟨F30, PySem.W.mg_of X G a30, b30⟩ ⟨F31, PySem.W.mg_of X G a31, b31⟩ ⟨F32, PySem.W.mg_of X G a32, b32⟩ ⟨F33, PySem.W.mg_of X G a33, b33⟩ ⟨F34, PySem.W.mg_of X G a34, b34⟩ ⟨F35, PySem.W.mg_of X G a35, b35⟩ ⟨F36, PySem.W.mg_of X G a36, b36⟩ ⟨F37, PySem.W.mg_of X G a37, b37⟩ ⟨F38, PySem.W.mg_of X G a38, b38⟩ ⟨F39, PySem.W.mg_of X G a39, b39⟩ ⟨F40, PySem.W.mg_of X G a40, b40⟩ ⟨F41, PySem.W.mg_of X G a41, b41⟩ rfl ⟨T3.code, T3.bm, T3.gP⟩ rfl ⟨T13.code, T13.bm, T13.gP⟩ rfl ⟨T22.code, T22.bm, T22.gP⟩
end Pk
open PySem PySem.W PyProof.Rows
set_option maxHeartbeats 0 in
theorem PySem.Challenge.cw_packwants_k15_tables_looked_at_holds : PySem.Challenge.rw_packwants_k15_tables_looked_at.Holds := by
  w_on; o_law; k_head; (case hw => w_witness2)
  k_fill
  refine Pk.walk_ofH (l := PySem.Challenge.rw_packwants_k15_tables_looked_at) (n := 63) (k := 10) (x := "_law_script") rfl (by decide) rfl ⟨rfl, by decide, by decide⟩ (fun w h Y => PySem.W.kIn_of Y) ?F
  case F =>
    intro w mg fa h KX G hmg tabs
    refine' Pk.all_mk KX G hmg tabs ?a1 ?l1 ?c1 ?k1 ?a2 ?l2 ?c2 ?k2 ?a3 ?l3 ?c3 ?k3 ?a4 ?l4 ?c4 ?k4 ?a5 ?l5 ?c5 ?k5 ?a6 ?l6 ?c6 ?k6 ?a7 ?l7 ?c7 ?k7 ?a8 ?l8 ?c8 ?k8 ?a9 ?l9 ?c9 ?k9 ?a10 ?l10 ?c10 ?k10 ?a11 ?l11 ?c11 ?k11 ?a12 ?l12 ?c12 ?k12 ?a13 ?l13 ?c13 ?k13 ?a14 ?l14 ?c14 ?k14 ?a15 ?l15 ?c15 ?k15 ?a16 ?l16 ?c16 ?k16 ?a17 ?l17 ?c17 ?k17 ?a18 ?l18 ?c18 ?k18 ?a19 ?l19 ?c19 ?k19 ?a20 ?l20 ?c20 ?k20 ?a21 ?l21 ?c21 ?k21 ?a22 ?l22 ?c22 ?k22 ?a23 ?l23 ?c23 ?k23 ?a24 ?l24 ?c24 ?k24 ?a25 ?l25 ?c25 ?k25 ?a26 ?l26 ?c26 ?k26 ?a27 ?l27 ?c27 ?k27 ?a28 ?l28 ?c28 ?k28 ?a29 ?l29 ?c29 ?k29 ?a30 ?l30 ?c30 ?k30 ?a31 ?l31 ?c31 ?k31 ?a32 ?l32 ?c32 ?k32 ?a33 ?l33 ?c33 ?k33 ?a34 ?l34 ?c34 ?k34 ?a35 ?l35 ?c35 ?k35 ?a36 ?l36 ?c36 ?k36 ?a37 ?l37 ?c37 ?k37 ?a38 ?l38 ?c38 ?k38 ?a39 ?l39 ?c39 ?k39 ?a40 ?l40 ?c40 ?k40 ?a41 ?l41 ?c41 ?k41 ?lc3 ?hv3 ?nt3 ?rc3 ?lc13 ?hv13 ?nt13 ?rc13 ?lc22 ?hv22 ?nt22 ?rc22 ?z1 ?z2 ?z3 ?z4 ?z5 ?z6 ?z7 ?z8 ?z9 ?z10 ?z11 ?z12 ?z13 ?z14 ?z15 ?z16 ?z17 ?z18 ?q1 ?q2
    (case a1 => k_is); (case l1 => k_is); (case c1 => k_is); (case k1 => k_is); (case a2 => k_is); (case l2 => k_is); (case c2 => k_is); (case k2 => k_is); (case a3 => k_is); (case l3 => k_is); (case c3 => k_is); (case k3 => k_is); (case a4 => k_is); (case l4 => k_is); (case c4 => k_is); (case k4 => k_is); (case a5 => k_is); (case l5 => k_is); (case c5 => k_is); (case k5 => k_is); (case a6 => k_is); (case l6 => k_is); (case c6 => k_is); (case k6 => k_is); (case a7 => k_is); (case l7 => k_is); (case c7 => k_is); (case k7 => k_is); (case a8 => k_is); (case l8 => k_is); (case c8 => k_is); (case k8 => k_is); (case a9 => k_is); (case l9 => k_is); (case c9 => k_is); (case k9 => k_is); (case a10 => k_is); (case l10 => k_is); (case c10 => k_is); (case k10 => k_is); (case a11 => k_is); (case l11 => k_is); (case c11 => k_is); (case k11 => k_is); (case a12 => k_is); (case l12 => k_is); (case c12 => k_is); (case k12 => k_is); (case a13 => k_is); (case l13 => k_is); (case c13 => k_is); (case k13 => k_is); (case a14 => k_is); (case l14 => k_is); (case c14 => k_is); (case k14 => k_is); (case a15 => k_is); (case l15 => k_is); (case c15 => k_is); (case k15 => k_is); (case a16 => k_is); (case l16 => k_is); (case c16 => k_is); (case k16 => k_is); (case a17 => k_is); (case l17 => k_is); (case c17 => k_is); (case k17 => k_is); (case a18 => k_is); (case l18 => k_is); (case c18 => k_is); (case k18 => k_is); (case a19 => k_is); (case l19 => k_is); (case c19 => k_is); (case k19 => k_is); (case a20 => k_is); (case l20 => k_is); (case c20 => k_is); (case k20 => k_is); (case a21 => k_is); (case l21 => k_is); (case c21 => k_is); (case k21 => k_is); (case a22 => k_is); (case l22 => k_is); (case c22 => k_is); (case k22 => k_is); (case a23 => k_is); (case l23 => k_is); (case c23 => k_is); (case k23 => k_is); (case a24 => k_is); (case l24 => k_is); (case c24 => k_is); (case k24 => k_is); (case a25 => k_is); (case l25 => k_is); (case c25 => k_is); (case k25 => k_is); (case a26 => k_is); (case l26 => k_is); (case c26 => k_is); (case k26 => k_is); (case a27 => k_is); (case l27 => k_is); (case c27 => k_is); (case k27 => k_is); (case a28 => k_is); (case l28 => k_is); (case c28 => k_is); (case k28 => k_is); (case a29 => k_is); (case l29 => k_is); (case c29 => k_is); (case k29 => k_is); (case a30 => k_is); (case l30 => k_is); (case c30 => k_is); (case k30 => k_is); (case a31 => k_is); (case l31 => k_is); (case c31 => k_is); (case k31 => k_is); (case a32 => k_is); (case l32 => k_is); (case c32 => k_is); (case k32 => k_is); (case a33 => k_is); (case l33 => k_is); (case c33 => k_is); (case k33 => k_is); (case a34 => k_is); (case l34 => k_is); (case c34 => k_is); (case k34 => k_is); (case a35 => k_is); (case l35 => k_is); (case c35 => k_is); (case k35 => k_is); (case a36 => k_is); (case l36 => k_is); (case c36 => k_is); (case k36 => k_is); (case a37 => k_is); (case l37 => k_is); (case c37 => k_is); (case k37 => k_is); (case a38 => k_is); (case l38 => k_is); (case c38 => k_is); (case k38 => k_is); (case a39 => k_is); (case l39 => k_is); (case c39 => k_is); (case k39 => k_is); (case a40 => k_is); (case l40 => k_is); (case c40 => k_is); (case k40 => k_is); (case a41 => k_is); (case l41 => k_is); (case c41 => k_is); (case k41 => k_is); (case lc3 => k_is); (case hv3 => rfl); (case nt3 => rfl); (case rc3 => rfl); (case lc13 => k_is); (case hv13 => rfl); (case nt13 => rfl); (case rc13 => rfl); (case lc22 => k_is); (case hv22 => rfl); (case nt22 => rfl); (case rc22 => rfl); (case z1 => k_is); (case z2 => k_is); (case z3 => k_is); (case z4 => k_is); (case z5 => k_is); (case z6 => k_is); (case z7 => k_is); (case z8 => k_is); (case z9 => k_is); (case z10 => k_is); (case z11 => k_is); (case z12 => k_is); (case z13 => k_is); (case z14 => k_is); (case z15 => k_is); (case z16 => k_is); (case z17 => k_is); (case z18 => k_is); (case q1 => k_is); (case q2 => k_is)
