import PyProof.Rows.All
import Wide.All
import OpenK.AllK
import Wide.FinOn
import HandS.ForMost
import HandS.IsInst
import HandS.Wide
import HandS.Walk
import HandS.Flow
import HandS.AnyAll
import HandS.EndTab
import HandS.Deep
import HandS.Style
import HandS.Conv
import HandS.DictTup
import HandS.SortInts
import KE.DataCmp
import KE.SortData
import KE.BitLaws
import KE.DataFind
import PyProof.ReprRoads
import PyProof.Rows.ReprOcc
import HandS.FStr
import HandS.StrMore
import HandS.Exc
import HandS.ExcInit
import HandS.ExcIs
import HandS.ExcField
import HandS.WordsExc
import HandS.ExcValue
import HandS.SetFor
import HandS.RevRange
import HandS.GenList
import HandS.DictComp
import PyProof.SumAny
import HandS.Star
import HandS.WideBits
import KE.KeyNested
import KE.KDictKeyed
import HandS.Strs
import HandS.CallLocal
import HandS.More
import HandS.RaiseFrom
import HandS.SuiteRaise
import HandS.TryOnly
import HandS.Small
import HandS.ExcInitHot
import KE.GoesRaise
import KE.KExcIs
import PySem.Challenge.RW_packwants_k16_whole_no_purchase_costs_le
set_option Elab.async false
set_option linter.all false
set_option maxRecDepth 100000
set_option maxHeartbeats 4000000
namespace Pk
open PySem PySem.Spec PyProof.Rows L2
def topS (i : Nat) : Stmt := PySem.Challenge.pw_packwants_k16_whole_no_purchase_costs_le.main.body.getD i (.Pass ⟨0, 0, 0, 0⟩)
/-! ### heaps and plain data -/
theorem same_upd {H : Hp} {p : Addr} {o : HO} (h : H p = none) : Same H (upd H p o) := fun b x e => by
  rw [upd_ne (ne_of_none e h)]
  exact e
/-- all but a is as it was -/
def SameBut (a : Addr) (H H' : Hp) : Prop := ∀ b o, b ≠ a → H b = some o → H' b = some o
theorem SameBut.of {a : Addr} {H H' : Hp} (h : Same H H') : SameBut a H H' := fun b o _ e => h b o e
theorem SameBut.refl (a : Addr) (H : Hp) : SameBut a H H := fun _ _ _ e => e
theorem SameBut.trans {a : Addr} {H H1 H2 : Hp} (h : SameBut a H H1) (k : SameBut a H1 H2) : SameBut a H H2 := fun b o n e => k b o n (h b o n e)
theorem SameBut.upd {a : Addr} {H : Hp} {o : HO} : SameBut a H (upd H a o) := fun b x n e => by
  rw [upd_ne n]
  exact e
theorem SameBut.new {a p : Addr} {H H' : Hp} {o : HO} (h : SameBut a H H') (hp : H p = none) : SameBut a H (L2.upd H' p o) := fun b x n e => by
  rw [upd_ne (ne_of_none e hp)]
  exact h b x n e
/-- what was not there at the start may change -/
theorem sm_new {p : Addr} {H H' : Hp} {o : HO} (h : Same H H') (hp : H p = none) : Same H (L2.upd H' p o) := fun b x e => by
  rw [upd_ne (ne_of_none e hp)]
  exact h b x e
theorem SameBut.free {a p : Addr} {H H' : Hp} (h : SameBut a H H') (n : H' p = none) (ha : H' a ≠ none) : H p = none := by
  cases q : H p with
  | none => rfl
  | some o =>
    by_cases e : p = a
    · subst e
      exact absurd n ha
    · rw [h p o e q] at n
      cases n
/-- a list of ints -/
abbrev LI (ns : List Int) : HO := .lst (ns.map V.int)
theorem dpAll_ints {K : PySem.W.Frag} {H : Hp} : ∀ ns : List Int, DpAll K H (ns.map V.int) (ns.map PyData.int)
  | [] => .nil
  | n :: r => .cons (.int n) (dpAll_ints r)
theorem dp_ints {K : PySem.W.Frag} {H : Hp} {a : Addr} {ns : List Int} (h : SqL K H a (ns.map V.int)) : Dp K H (.ref a) (.list (ns.map PyData.int)) := .lst h (dpAll_ints ns)
theorem lay_ints : ∀ ns : List Int, PyData.canLayAll0 (ns.map PyData.int) = true
  | [] => by simp [PyData.canLayAll0]
  | n :: r => by
    have ih := lay_ints r
    simp [PyData.canLayAll0, PyData.canLay0, ih]
theorem depth_ints : ∀ ns : List Int, PyData.depthAll (ns.map PyData.int) = 0
  | [] => by simp [PyData.depthAll]
  | n :: r => by
    have ih := depth_ints r
    simp [PyData.depthAll, PyData.depth, ih]
theorem shaped_ints (ns : List Int) : SeqAt.shaped (.list (ns.map PyData.int)) = true := by
  unfold SeqAt.shaped
  have h1 : PyData.canLay0 (.list (ns.map PyData.int)) = true := by
    simp only [PyData.canLay0]
    exact lay_ints ns
  have h2 : PyData.depth (.list (ns.map PyData.int)) ≤ 64 := by
    simp only [PyData.depth]
    rw [depth_ints]
    omega
  rw [h1, decide_eq_true h2]
  rfl
theorem eqvAll_ints : ∀ ns ms : List Int, PyData.eqvAll (ns.map PyData.int) (ms.map PyData.int) = decide (ns = ms)
  | [], [] => by simp [PyData.eqvAll]
  | [], _ :: _ => by simp [PyData.eqvAll]
  | _ :: _, [] => by simp [PyData.eqvAll]
  | n :: r, m :: q => by
    have ih := eqvAll_ints r q
    simp only [List.map_cons, PyData.eqvAll, PyData.eqv, ih]
    by_cases h1 : n = m <;> by_cases h2 : r = q <;> simp [h1, h2]
theorem eqv_ints (ns ms : List Int) : PyData.eqv (.list (ns.map PyData.int)) (.list (ms.map PyData.int)) = decide (ns = ms) := by
  simp only [PyData.eqv]
  exact eqvAll_ints ns ms
theorem li_app (ls : List Int) (n : Int) : HO.lst (ls.map V.int ++ [.int n]) = LI (ls ++ [n]) := by
  show _ = HO.lst ((ls ++ [n]).map V.int)
  rw [List.map_append]
  rfl
theorem li_set (ls : List Int) (j : Nat) (n : Int) : HO.lst ((ls.map V.int).set j (.int n)) = LI (ls.set j n) := by
  show _ = HO.lst ((ls.set j n).map V.int)
  rw [List.map_set]
theorem at_app {H : Hp} {a : Addr} {ls : List Int} {n : Int} : upd H a (.lst (ls.map V.int ++ [.int n])) a = some (LI (ls ++ [n])) := by rw [upd_same, li_app]
theorem at_set {H : Hp} {a : Addr} {ls : List Int} {j : Nat} {n : Int} : upd H a (.lst ((ls.map V.int).set j (.int n))) a = some (LI (ls.set j n)) := by rw [upd_same, li_set]
theorem szL {n : Nat} (h : n ≤ 100000) : n ≤ sizeLine := Nat.le_trans h (by decide)
theorem szL' {n : Nat} (h : n ≤ 100000) : n < sizeLine := Nat.lt_of_le_of_lt h (by decide)
theorem get_ints {ns : List Int} {i : Nat} {n : Int} (h : ns[i]? = some n) : (ns.map V.int)[i]? = some (.int n) := by
  rw [List.getElem?_map, h]
  rfl
theorem getD_ints {ns : List Int} {i : Nat} (h : i < ns.length) : (ns.map V.int)[i]? = some (.int ns[i]) := get_ints (List.getElem?_eq_getElem h)
theorem of_get_ints {ns : List Int} {i : Nat} {v : V} (h : (ns.map V.int)[i]? = some v) : ∃ n, ns[i]? = some n ∧ v = .int n := by
  rw [List.getElem?_map] at h
  cases e : ns[i]? with
  | none => rw [e] at h; cases h
  | some n => rw [e] at h; exact ⟨n, rfl, (Option.some.inj h).symm⟩
/-- i % n as a place -/
theorem mod_at {i : Int} {n : Nat} (h : 0 < n) : ∃ j : Nat, j < n ∧ i % (n : Int) = (j : Int) := by
  have h1 : 0 ≤ i % (n : Int) := Int.emod_nonneg i (by omega)
  have h2 : i % (n : Int) < (n : Int) := Int.emod_lt_of_pos i (by omega)
  exact ⟨(i % (n : Int)).toNat, by omega, by omega⟩
theorem ixN_nat {n j : Nat} (h : j < n) : ixN n (j : Int) = some j := by
  unfold ixN
  rw [if_pos (by omega), if_pos (by omega), Int.toNat_natCast]
theorem take_succ_at {α : Type} {l : List α} {i : Nat} {x : α} (h : l[i]? = some x) : l.take (i + 1) = l.take i ++ [x] := by
  rw [List.take_add_one, h]
  rfl
/-- a def of the top: where it stands -/
structure Def (K : PySem.W.Frag) (mg : Str → Option Value) (x : Str) (st : Stmt) (ps : List Str) (f : Addr) (fd : FuncData) : Prop where
  F : Fun K x x st f fd
  g : mg x = some (.ref f)
  b : Binds K fd ps []
/-! ### rules at a written K (for a comprehension's block) -/
section
variable {X : Cx} {K : PySem.W.Frag}
theorem ix_listK (h : X.K = K) : IxR X (rIxL K) := by subst h; exact ix_list
theorem ix_tupK (h : X.K = K) : IxR X (rIxT K) := by subst h; exact ix_tup
theorem call_len_seqK (h : X.K = K) : CallR X (.builtin "len") (fun xs H Q => ∃ p ys, xs = [.ref p] ∧ (SqL K H p ys ∨ SqT K H p ys) ∧ Q (.int ys.length) H) := by subst h; exact call_len_seq
theorem op_eqDK (h : X.K = K) (hu : X.A.units + 64 < cLine) : OpR X (compareOp .Eq) (rEqD K) := by subst h; exact op_eqD hu
theorem op_neDK (h : X.K = K) (hu : X.A.units + 64 < cLine) : OpR X (compareOp .NotEq) (rNeD K) := by subst h; exact op_neD hu
theorem cr_maxK (h : X.K = K) (hc : X.calm = true) : CallR X (.builtin "max") (rMax K) := by subst h; exact cr_max hc
theorem cr_sumK (h : X.K = K) (hc : X.calm = true) : CallR X (.builtin "sum") (rSum K) := by subst h; exact cr_sum hc
theorem call_list_ofK (h : X.K = K) : CallR X (.type "list") (fun xs H Q => ∃ p ys, xs = [.ref p] ∧ (SqL K H p ys ∨ SqT K H p ys) ∧ ∀ l, H l = none → Q (.ref l) (upd H l (.lst ys))) := by subst h; exact call_list_of
theorem pi_listK {tg l : Expr} {tl : TE} (h : X.K = K) (hl : PE X l tl) : PI X tg l (iList K tl) := by subst h; exact pi_list hl
theorem pi_tupK {tg l : Expr} {tl : TE} (h : X.K = K) (hl : PE X l tl) : PI X tg l (iTup K tl) := by subst h; exact pi_tup hl
theorem pg_tupK {es : List Expr} {k : Nat} {t : TGs} {n : Nat} {pos : Pos} (hK : X.K = K) (hc : X.calm = true) (h : PGs X es t)
    (hn : (assignEach es X.env).length = n := by rfl) (hst : (assignEach es X.env).findIdx? (·.1) = none := by rfl) : PG X (.Tuple es k pos) (gTup K n t) := by subst hK; exact pg_tup hc h hn hst
end
/-! ### a statement whose ends are joined by what holds behind it -/
def tCutI (t u : TS) : TS := fun D σ H => ∃ I : L2.St → Hp → Prop, t { D with nx := I } σ H ∧ ∀ σ' H', I σ' H' → u D σ' H'
theorem pss_cutI {X : Cx} {st : Stmt} {rest : List Stmt} {t u : TS} (h1 : PS X st t) (h2 : PSs X rest u) : PSs X (st :: rest) (tCutI t u) := by
  refine ⟨fun pins s σ H D I h => ?_⟩
  obtain ⟨J, h, hJ⟩ := h
  refine wpAny_execs_cons (thn (h1.run pins s σ H { D with nx := J } I h) fun f s1 q => ?_)
  cases f with
  | next =>
    obtain ⟨σ', H', I', q⟩ := q
    exact h2.run pins s1 σ' H' D I' (hJ σ' H' q)
  | ret v => exact q
  | brk => exact q
  | cont => exact q
/-- data: lists of lists of ints -/
abbrev dRows (rs : List (List Int)) : PyData := .list (rs.map fun r => .list (r.map PyData.int))
theorem lay_rows : ∀ rs : List (List Int), PyData.canLayAll0 (rs.map fun r => .list (r.map PyData.int)) = true
  | [] => by simp [PyData.canLayAll0]
  | r :: q => by
    have ih := lay_rows q
    have h1 := lay_ints r
    simp [PyData.canLayAll0, PyData.canLay0, ih, h1]
theorem depth_rows : ∀ rs : List (List Int), PyData.depthAll (rs.map fun r => .list (r.map PyData.int)) ≤ 1
  | [] => by simp [PyData.depthAll]
  | r :: q => by
    have ih := depth_rows q
    have h1 := depth_ints r
    simp only [List.map_cons, PyData.depthAll, PyData.depth]
    omega
theorem shaped_rows (rs : List (List Int)) : SeqAt.shaped (dRows rs) = true := by
  unfold SeqAt.shaped
  have h1 : PyData.canLay0 (dRows rs) = true := by
    simp only [PyData.canLay0]
    exact lay_rows rs
  have h2 : PyData.depth (dRows rs) ≤ 64 := by
    have := depth_rows rs
    simp only [PyData.depth]
    omega
  rw [h1, decide_eq_true h2]
  rfl
theorem eqv_self {d : PyData} (h : SeqAt.shaped d = true) : PyData.eqv d d = true := SeqAt.eqv_refl d (SeqAt.canLay_of_shaped h)
/-- the built-in names that the top leaves alone, and its constants -/
structure Names (mg : Str → Option Value) : Prop where
  len : mg "len" = none
  range : mg "range" = none
  max : mg "max" = none
  list : mg "list" = none
  isinstance : mg "isinstance" = none
  int : mg "int" = none
  bool : mg "bool" = none
  enumerate : mg "enumerate" = none
  all : mg "all" = none
  zip : mg "zip" = none
  reversed : mg "reversed" = none
  sum : mg "sum" = none
  sorted : mg "sorted" = none
  tuple : mg "tuple" = none
  any : mg "any" = none
  min : mg "min" = none
  str : mg "str" = none
  abs : mg "abs" = none
  c_MOST_TIERS : ∃ t, mg "MOST_TIERS" = some (.int 4 t)
  c_MOST_PIECES : ∃ t, mg "MOST_PIECES" = some (.int 12 t)
/-! ### generator expressions whose element is quiet: the def's code table may grow, all else stands -/
/-- what is no bare record is not the table -/
theorem tab_ne {X : Cx} {pins : List (Addr × Obj)} {σ : L2.St} {H1 : Hp} {s1 : Shared} {P : Addr} (I : Inv X pins σ H1 s1) (h : GxR.TabG H1 P) {b : Addr} {o : Obj} (e : s1.heap.get? b = some o) (c : o.cls ≠ .none ∨ ∀ vs, o.data ≠ .fields vs) : b ≠ P := by
  rintro rfl
  obtain ⟨ps, isTab, _⟩ := h
  have q : s1.heap.get? b = some { cls := .none, data := .fields ps } := I.hok b _ isTab
  cases q.symm.trans e
  exact c.elim (fun z => z rfl) (fun z => z _ rfl)
/-- from h2 to h3 the table at P has grown by some entries, and all else stands -/
structure Longer (P : Addr) (h2 h3 : Heap) (ps more : Array Value) : Prop where
  rest : Heap.ExtBut P h2 h3
  size : h2.objs.size ≤ h3.objs.size
  table : h3.get? P = some { cls := .none, data := .fields (ps ++ more) }
  good : TriplesOk (ps ++ more).toList
/-- the expression's own scope: the walked thing at «.0», its names, and captured ones that are cells of the def; for two names -/
structure GenS2 (sc scope : Scope) (xa xb : Str) : Prop where
  kind : scope.kind = .function
  co : scope.isCoroutine = false
  cell : ∀ y ∈ scope.names, y.2 ≠ .cell
  dot : scope.names.lookup (".0" : Str) = some NameKind.local
  la : scope.names.lookup xa = some .local
  lb : scope.names.lookup xb = some .local
  ne : xa ≠ xb
  free : ∀ y ∈ scope.names, y.2 = .free → sc.names.lookup y.1 = some .cell
/-- for one -/
structure GenS1 (sc scope : Scope) (x : Str) : Prop where
  kind : scope.kind = .function
  co : scope.isCoroutine = false
  cell : ∀ y ∈ scope.names, y.2 ≠ .cell
  dot : scope.names.lookup (".0" : Str) = some NameKind.local
  la : scope.names.lookup x = some .local
  free : ∀ y ∈ scope.names, y.2 = .free → sc.names.lookup y.1 = some .cell
/-- what is said of the thing that is walked: it was made in s1, and stands in t -/
structure Walkee (X : Cx) (pins : List (Addr × Obj)) (σ : L2.St) (H1 : Hp) (P : Addr) (fp wr : List Addr) (s1 t : Shared) : Prop where
  inv : Inv X pins σ H1 s1
  tab : GxR.TabG H1 P
  same : ∃ h n, t = { s1 with heap := h, toks := n }
  keep : ∀ b o, s1.heap.get? b = some o → t.heap.get? b = some o
  size : s1.heap.objs.size ≤ t.heap.objs.size
  low : ∀ b ∈ fp, b < t.heap.objs.size ∧ b ≠ P
  new : ∀ b ∈ wr, s1.heap.objs.size ≤ b
/-- the generator g, ready to be walked, in the state s5; F: what each turn hands out -/
def Walked (X : Cx) (pins : List (Addr × Obj)) (σ : L2.St) (H1 : Hp) (P : Addr) (n : Nat) (F : Nat → Value → Prop) (g : Addr) (s5 : Shared) : Prop :=
  ∃ (fp wr : List Addr) (G : Array GenState → Array GenState → Prop) (F' : Nat → Value → Prop) (St : Nat → Shared → Prop),
    WalksS X.prog X.w X.A.in1 g fp wr G n F' St ∧ St 0 s5 ∧ (∀ b ∈ fp, b < s5.heap.objs.size) ∧ (∀ i v, F' i v → F i v) ∧ ∀ s', Moved wr G s5 s' → ∃ H2, GxR.Tabbed P H1 H2 ∧ Inv X pins σ H2 s'
/-- what the element may lean on: the frame cenv, the depth, and a heap in which all that stood in s1 stands but for the table -/
structure Turned (X : Cx) (P : Addr) (sc : Scope) (s1 : Shared) (cenv : Env) (A' : Around) (u : Shared) : Prop where
  own : cenv.scope = sc
  cells : cenv.cells = cloFrom X.env.cells sc.names []
  glob : cenv.globals = mainGlobals
  blt : cenv.builtins = builtinsNs
  calm : A'.handled = none
  deep : A'.depth ≤ X.A.depth + 1
  units : A'.units ≤ X.A.units + 8
  still : ∀ b o, b ≠ P → s1.heap.get? b = some o → u.heap.get? b = some o
section
variable {X : Cx} {pins : List (Addr × Obj)} {σ : L2.St} {H1 : Hp} {s1 t : Shared} {c P : Addr} {fp wr : List Addr} {h2 h3 : Heap} {ps more : Array Value}
/-- the code of the expression is looked up, or laid: then the table is longer -/
theorem tab_opens {gpos : Pos} {q : Str} {scope : Scope} {t2 : Nat} {R : Value → Addr → Shared → Prop} (TB : GxR.TabB X.base X.mg c P) (code : X.env.code = .ref c) (I : Inv X pins σ H1 s1) (isTab : H1 P = some (.tbl ps)) (good : TriplesOk ps.toList)
    (keep : ∀ b o, s1.heap.get? b = some o → h2.get? b = some o) (h : ∀ cv h3 n more, Longer P h2 h3 ps more → R cv builtinsNs { s1 with heap := h3, toks := n }) :
    wpAny (model X.prog X.w) X.A (genexprCode X.env gpos q scope) (fun cv t => wpAny (model X.prog X.w) X.A (builtinsFor X.env.globals X.env.builtins) (fun bi u => R cv bi u) X.xe t) X.xe { s1 with heap := h2, toks := t2 } := by
  have table : h2.get? P = some { cls := .none, data := .fields ps } := keep P _ (I.hok P _ isTab)
  have head : PySem.W.CodeHd h2 c P := TB.code.keeps fun b o e => keep b o (I.bk b o e)
  have go : ∀ cv h3 n more, Longer P h2 h3 ps more → wpAny (model X.prog X.w) X.A (builtinsFor X.env.globals X.env.builtins) (fun bi u => R cv bi u) X.xe { s1 with heap := h3, toks := n } := by
    intro cv h3 n more L
    obtain ⟨at_, ob, given, away, _, notTab, inBase, cls, dict, plain⟩ := TB.bm
    have globals : h3.Ns X.env.globals X.mg := I.ok.glob ▸ ((I.mod.glob.keeps I.bk).keeps keep).extBut L.rest TB.gP
    exact wpAny_builtinsFor globals given away (L.rest _ _ notTab (keep _ _ (I.bk _ _ inBase))) cls dict plain (h cv h3 n more L)
  cases found : codeAmong gpos ps.toList
  · refine wpAny_genexprCodeX code (head.code table good) (head.tab table) found fun c' h' n rest below above isCode _ isTable _ => go _ h' n _ ⟨rest, Nat.le_trans below (Nat.le_of_lt above), isTable.2, ?_⟩
    obtain ⟨_, _, _, _, _, _, _, _, _, _, _, _, _, _, _, _, _, _, _, triples, _⟩ := isCode
    exact triples
  · refine wpAny_genexprCode_hit code (head.code table good) found (go _ h2 t2 #[] ⟨Heap.ExtBut.refl _ _, Nat.le_refl _, ?_, ?_⟩)
    · rw [Array.append_empty]
      exact table
    · rw [Array.append_empty]
      exact good
/-- when it has been walked: what was held is held, but for the longer table -/
theorem tab_closes {h5 : Heap} {n : Nat} {gs : GenState} {j : Nat} {wr' : List Addr} {s' : Shared} (I : Inv X pins σ H1 s1) (isTab : H1 P = some (.tbl ps)) (keep : ∀ b o, s1.heap.get? b = some o → h2.get? b = some o) (L : Longer P h2 h3 ps more)
    (bare : gs.bare = true) (on : ∀ b o, h3.get? b = some o → h5.get? b = some o) (new : ∀ b ∈ wr', s1.heap.objs.size ≤ b) (mv : Moved wr' (GenOnlyQ j) { s1 with heap := h5, gens := s1.gens.push gs, toks := n } s') : ∃ H2, GxR.Tabbed P H1 H2 ∧ Inv X pins σ H2 s' := by
  have old : ∀ {b o}, s1.heap.get? b = some o → b ∉ wr' := fun e z => Nat.lt_irrefl _ (Nat.lt_of_lt_of_le (Heap.lt_size e) (new _ z))
  have J := GxR.inv_tab (h' := s'.heap) (g' := s'.gens) (d' := s'.drawn) (t' := s'.toks) I isTab (fun b o far e => mv.heap b o (old e) (on b o (L.rest b o far (keep b o e)))) (mv.heap P _ (old (I.hok P _ isTab)) (on P _ L.table)) (AllBare.movedS (I.bare.push bare) mv)
  exact ⟨upd H1 P (.tbl (ps ++ more)), ⟨⟨_, upd_same, L.good⟩, fun _ far => upd_ne far⟩, (GxR.sh_eta s1 s' mv.os) ▸ J⟩
theorem Walkee.statics (K : Walkee X pins σ H1 P fp wr s1 t) : cStatics ≠ P ∧ cStatics ∉ wr := by
  obtain ⟨_, names, _⟩ := K.inv.nolimit
  constructor
  · rintro rfl
    obtain ⟨ps, isTab, _⟩ := K.tab
    obtain ⟨ob, _, _, there, isNs, _⟩ := names
    have q : s1.heap.get? cStatics = some { cls := .none, data := .fields ps } := K.inv.hok _ _ isTab
    cases q.symm.trans there
    cases isNs
  · exact fun z => Nat.lt_irrefl _ (Nat.lt_of_lt_of_le names.lt (K.new _ z))
/-- all that stood in s1 stands where an element is reckoned -/
theorem Walkee.turned {scope : Scope} {code : Value} {href : Heap} {A' : Around} {u : Shared} (K : Walkee X pins σ H1 P fp wr s1 t) (L : Longer P t.heap h3 ps more) (on : ∀ b o, h3.get? b = some o → href.get? b = some o) (calm : A'.handled = none) (deep : A'.depth ≤ X.A.depth + 1) (units : A'.units ≤ X.A.units + 8)
    (still : ∀ b ∈ List.range h3.objs.size, b ∉ wr → ∀ o, href.get? b = some o → u.heap.get? b = some o) : Turned X P scope s1 (genEnv scope (cloFrom X.env.cells scope.names []) h3.objs.size code builtinsNs X.env) A' u where
  own := rfl
  cells := rfl
  glob := K.inv.ok.glob
  blt := rfl
  calm := calm
  deep := deep
  units := units
  still := fun b o far e =>
    have e3 := L.rest b o far (K.keep b o e)
    still b (List.mem_range.mpr (Heap.lt_size e3)) (fun z => Nat.lt_irrefl _ (Nat.lt_of_lt_of_le (Heap.lt_size e) (K.new b z))) o (on b o e3)
/-- the made generator is ready -/
theorem Walkee.ready {n : Nat} {F : Nat → Value → Prop} {g : Addr} {h5 : Heap} {n3 n5 : Nat} {gs : GenState} {j : Nat} {wr' fp' : List Addr} {St : Nat → Shared → Prop} (K : Walkee X pins σ H1 P fp wr s1 t) (isTab : H1 P = some (.tbl ps)) (L : Longer P t.heap h3 ps more)
    (bare : gs.bare = true) (above : h3.objs.size < g) (size : h5.objs.size = g + 1) (on : ∀ b o, h3.get? b = some o → h5.get? b = some o) (hf : ∀ b ∈ fp', b = g ∨ b = h3.objs.size ∨ b < h3.objs.size) (hw : ∀ b ∈ wr', b = h3.objs.size ∨ b ∈ wr)
    (W : WalksS X.prog X.w X.A.in4 g fp' wr' (GenOnlyQ j) (passing (fun _ => true) n 0).length (fun j y => ∃ i, (passing (fun _ => true) n 0)[j]? = some i ∧ F i y) St) (st : St 0 { ({ s1 with heap := h3, toks := n3 } : Shared) with gens := s1.gens.push gs, toks := n5, heap := h5 }) :
    Walked X pins σ H1 P n F g { ({ s1 with heap := h3, toks := n3 } : Shared) with gens := s1.gens.push gs, toks := n5, heap := h5 } := by
  rw [GxR.passing_true, List.length_range] at W
  refine ⟨_, _, _, _, _, W.in4_1, st, fun b hb => ?_, fun j y hy => ?_, fun s' mv => tab_closes K.inv isTab K.keep L bare on (fun b hb => ?_) mv⟩
  · show b < h5.objs.size
    rw [size]
    rcases hf b hb with rfl | rfl | z
    · exact Nat.lt_succ_self _
    · exact Nat.lt_succ_of_lt above
    · exact Nat.lt_succ_of_lt (Nat.lt_trans z above)
  · obtain ⟨i, at_, q⟩ := hy
    obtain ⟨_, e⟩ := List.getElem?_eq_some_iff.mp at_
    rw [List.getElem_range] at e
    exact e ▸ q
  · rcases hw b hb with rfl | z
    · exact Nat.le_trans K.size L.size
    · exact K.new b z
end
section
variable {X : Cx} {pins : List (Addr × Obj)} {σ : L2.St} {H : Hp} {s : Shared} {c P : Addr} {k : Nat} {Q' : Value → Shared → Prop}
/-- (element for a, b in iter): what is walked hands out pairs; the element gives what F says -/
theorem gen_pairs {elt iter : Expr} {xa xb : Str} {pa pb pt gpos : Pos} {kt : Nat} {scope : Scope} (hr : Room k X.A) (TB : GxR.TabB X.base X.mg c P) (hcode : X.env.code = .ref c) (S : GenS2 X.env.scope scope xa xb) (hs : ∀ v, genFold iter X.env v = pure v) (I : Inv X pins σ H s)
    (h : wpAny (model X.prog X.w) X.A (eval iter X.env) (fun xv t => wpAny (model X.prog X.w) X.A (pyIter xv) (fun it t2 => ∃ (Iad : Addr) (fp wr : List Addr) (n : Nat) (Pt : Nat → Array Value → Prop) (St : Nat → Heap → Prop) (Mid : Nat → Addr → Heap → Prop) (F : Nat → Value → Prop) (q : List (Addr × Obj)) (σ1 : L2.St) (H1 : Hp) (s1 : Shared),
      it = .ref Iad ∧ Walkee X q σ1 H1 P fp wr s1 t2 ∧ (∀ A' : Around, A'.handled = none → WalksU X.prog X.w A' Iad fp wr n Pt St Mid) ∧ (∀ i vals, Pt i vals → ∃ va vb, vals = #[va, vb]) ∧ St 0 t2.heap ∧
      (∀ (cenv : Env) (A' : Around) (E' : Value → Shared → Prop) (i : Nat) (va vb : Value) (u : Shared) (m : Str → Option Value), Turned X P scope s1 cenv A' u → Pt i #[va, vb] → u.heap.Ns cenv.locals m → m xa = some va → m xb = some vb →
        wpAny (model X.prog X.w) A' (eval elt cenv) (fun y u' => F i y ∧ Keeps u u') E' u) ∧
      ∀ g s5, Walked X q σ1 H1 P n F g s5 → Q' (.ref g) s5) X.xe t) X.xe s) :
    wpAny (model X.prog X.w) X.A (eval (.GeneratorExp elt [⟨.Tuple [.Name xa pa, .Name xb pb] kt pt, iter, [], 0⟩] scope gpos) X.env) Q' X.xe s := by
  have room := hr.dp
  refine wpAny_GeneratorExp_walksQTD hr.hd S.co (closure_ok fun y hy e => I.ok.has y.1 (.inl (S.free y hy e))) S.cell S.dot S.la S.lb S.ne S.kind (by omega) (wpAny_mono h (fun xv t h => wpAny_mono h (fun it t2 h => ?_) fun _ _ e => e) fun _ _ e => e) hs
  obtain ⟨Iad, fp, wr, n, Pt, St, Mid, F, q, σ1, H1, s1, rfl, K, W, two, st, turn, out⟩ := h
  obtain ⟨ps, isTab, good⟩ := K.tab
  obtain ⟨h2, n2, rfl⟩ := K.same
  have lim : h2.NoLimit := K.inv.nolimit.keeps K.keep
  refine ⟨lim, tab_opens TB hcode K.inv isTab good K.keep fun cv h3 n3 more L => ⟨Iad, fp, wr, n, Pt, St, Mid, fun _ => true, F, rfl, W, two, (W X.A hr.hd).frame _ _ _ st fun b hb o e => L.rest b o (K.low b hb).2 e, fun b hb => Nat.lt_of_lt_of_le (K.low b hb).1 L.size, lim.extBut L.rest K.statics.1, K.statics.2, fun href on => ⟨?_, ?_⟩, ?_⟩⟩
  · intro A' E' i va vb u m _ _ _ _ _ _ _ _
    exact wpAny_pure ⟨rfl, GxR.keeps_refl _⟩
  · intro A' E' i va vb u m calm deep units at_ _ ns ma mb still
    exact turn _ A' E' i va vb u m (K.turned L on calm deep units still) at_ ns ma mb
  · intro g h5 n5 gs bare above size on W5 st5
    refine out g _ (K.ready isTab L bare above size on (fun b hb => ?_) (fun b hb => List.mem_cons.mp hb) W5 st5)
    exact (List.mem_cons.mp hb).imp_right fun z => (List.mem_cons.mp z).imp_right List.mem_range.mp
/-- (element for a in iter) -/
theorem gen_ones {elt iter : Expr} {x : Str} {px gpos : Pos} {scope : Scope} (hr : Room k X.A) (TB : GxR.TabB X.base X.mg c P) (hcode : X.env.code = .ref c) (S : GenS1 X.env.scope scope x) (hs : ∀ v, genFold iter X.env v = pure v) (I : Inv X pins σ H s)
    (h : wpAny (model X.prog X.w) X.A (eval iter X.env) (fun xv t => wpAny (model X.prog X.w) X.A (pyIter xv) (fun it t2 => ∃ (Iad : Addr) (fp wr : List Addr) (n : Nat) (Pt : Nat → Value → Prop) (St : Nat → Heap → Prop) (F : Nat → Value → Prop) (q : List (Addr × Obj)) (σ1 : L2.St) (H1 : Hp) (s1 : Shared),
      it = .ref Iad ∧ Walkee X q σ1 H1 P fp wr s1 t2 ∧ (∀ A' : Around, A'.handled = none → Walks X.prog X.w A' Iad fp wr n Pt St) ∧ St 0 t2.heap ∧
      (∀ (cenv : Env) (A' : Around) (E' : Value → Shared → Prop) (i : Nat) (va : Value) (u : Shared) (m : Str → Option Value), Turned X P scope s1 cenv A' u → Pt i va → u.heap.Ns cenv.locals m → m x = some va →
        wpAny (model X.prog X.w) A' (eval elt cenv) (fun y u' => F i y ∧ Keeps u u') E' u) ∧
      ∀ g s5, Walked X q σ1 H1 P n F g s5 → Q' (.ref g) s5) X.xe t) X.xe s) :
    wpAny (model X.prog X.w) X.A (eval (.GeneratorExp elt [⟨.Name x px, iter, [], 0⟩] scope gpos) X.env) Q' X.xe s := by
  have room := hr.dp
  refine wpAny_GeneratorExp_walksQD hr.hd S.co (closure_ok fun y hy e => I.ok.has y.1 (.inl (S.free y hy e))) S.cell S.dot S.la S.kind (by omega) (wpAny_mono h (fun xv t h => wpAny_mono h (fun it t2 h => ?_) fun _ _ e => e) fun _ _ e => e) hs
  obtain ⟨Iad, fp, wr, n, Pt, St, F, q, σ1, H1, s1, rfl, K, W, st, turn, out⟩ := h
  obtain ⟨ps, isTab, good⟩ := K.tab
  obtain ⟨h2, n2, rfl⟩ := K.same
  have lim : h2.NoLimit := K.inv.nolimit.keeps K.keep
  refine ⟨lim, tab_opens TB hcode K.inv isTab good K.keep fun cv h3 n3 more L => ⟨Iad, fp, wr, n, Pt, St, fun _ => true, F, rfl, W, (W X.A hr.hd).frame _ _ _ st fun b hb o e => L.rest b o (K.low b hb).2 e, fun b hb => Nat.lt_of_lt_of_le (K.low b hb).1 L.size, lim.extBut L.rest K.statics.1, K.statics.2, fun href on => ⟨?_, ?_⟩, ?_⟩⟩
  · intro A' E' i va u m _ _ _ _ _ _ _
    exact wpAny_pure ⟨rfl, GxR.keeps_refl _⟩
  · intro A' E' i va u m calm deep units at_ _ ns ma still
    exact turn _ A' E' i va u m (K.turned L on calm deep units still) at_ ns ma
  · intro g h5 n5 gs bare above size on W5 st5
    refine out g _ (K.ready isTab L bare above size on (fun b hb => ?_) (fun b hb => List.mem_cons.mp hb) W5 st5)
    exact (List.mem_cons.mp hb).imp_right fun z => (List.mem_cons.mp z).imp_right List.mem_range.mp
/-- a built-in function of a generator expression alone -/
theorem call_gen {b : Str} {f : String} {ge : Expr} {p pos : Pos} {R : Value → Shared → Prop} (hg : Gl X b) (hm : X.mg b = none) (hb : bootBuiltins b = some (.builtin f)) (he : starEach [ge] X.env = (false, eval ge X.env) :: starEach [] X.env) (I : Inv X pins σ H s)
    (h : wpAny (model X.prog X.w) X.A (eval ge X.env) (fun v t => wpAny (model X.prog X.w) X.A (call (.builtin f) [v]) R X.xe t) X.xe s) (hd : (b == ("__debug__" : Str)) = false := by decide) (hn : b ≠ "__name__" := by decide) :
    wpAny (model X.prog X.w) X.A (eval (.Call (.Name b p) [ge] [] pos) X.env) R X.xe s := by
  refine wpAny_Call_Name_kw (ld_blt I hg hm hb (PyProof.Rows.callWith_builtin1 ?_ he (by rfl)) hn hd)
  rw [he]
  exact Calls.spliced_cons (wpAny_mono h (fun v t h => Calls.spliced_nil h) fun _ _ e => e)
theorem truth_of {A : Around} {F' : Nat → Value → Prop} {pb : Nat → Bool} (h : ∀ i v, F' i v → v = .bool (pb i)) : TruthOf X.prog X.w A F' pb := by
  intro i v t Q E at_ q
  cases h i v at_
  exact wpAny_truthy_bool q
end
/-! ### all(test for a, b in enumerate(list)) -/
def tAllE (K : PySem.W.Frag) (P : Addr) (R : L2.St → Hp → List V → (Nat → Bool) → Prop) (te : TE) : TE := fun σ H Q => te σ H fun v H1 => ∃ (a : Addr) (xs : List V) (pb : Nat → Bool), v = .ref a ∧ SqL K H1 a xs ∧ GxR.TabG H1 P ∧ R σ H1 xs pb ∧
  ∀ H2, GxR.Tabbed P H1 H2 → Q (.bl ((List.range xs.length).all pb)) H2
/-- what the element is to do at one pair -/
def EltE (X : Cx) (P : Addr) (scope : Scope) (xa xb : Str) (elt : Expr) (R : L2.St → Hp → List V → (Nat → Bool) → Prop) : Prop :=
  ∀ (pins : List (Addr × Obj)) (σ : L2.St) (H1 : Hp) (s1 : Shared) (xs : List V) (pb : Nat → Bool), Inv X pins σ H1 s1 → GxR.TabG H1 P → R σ H1 xs pb →
    ∀ (cenv : Env) (A' : Around) (E' : Value → Shared → Prop) (i : Nat) (v : V) (va vb : Value) (s₂ : Shared) (m₂ : Str → Option Value), cenv.scope = scope → cenv.cells = cloFrom X.env.cells scope.names [] → cenv.globals = mainGlobals → cenv.builtins = builtinsNs →
      A'.handled = none → A'.depth ≤ X.A.depth + 1 → A'.units ≤ X.A.units + 8 → xs[i]? = some v → (∃ t, va = .int (i : Nat) t) → RelV v vb → s₂.heap.Ns cenv.locals m₂ → m₂ xa = some va → m₂ xb = some vb → (∀ b o, b ≠ P → s1.heap.get? b = some o → s₂.heap.get? b = some o) →
      wpAny (model X.prog X.w) A' (eval elt cenv) (fun y s₃ => y = .bool (pb i) ∧ Keeps s₂ s₃) E' s₂
section
variable {X : Cx}
theorem pe_allEnum {c P : Addr} {elt e : Expr} {xa xb : Str} {pa pb' pt p pos gpos epos ep : Pos} {kt : Nat} {scope : Scope} {te : TE} {k : Nat} {R : L2.St → Hp → List V → (Nat → Bool) → Prop}
    (hr : Room k X.A) (hg : Gl X "all") (hm : X.mg "all" = none) (hb : bootBuiltins "all" = some (.builtin "all")) (hge : Gl X "enumerate") (hme : X.mg "enumerate" = none) (TB : GxR.TabB X.base X.mg c P) (hcode : X.env.code = .ref c) (S : GenS2 X.env.scope scope xa xb) (hi : PE X e te)
    (hel : EltE X P scope xa xb elt R)
    (hs : ∀ v, genFold (.Call (.Name "enumerate" ep) [e] [] epos) X.env v = pure v := by intro _; rfl)
    (hs1 : starEach [e] X.env = [(false, eval e X.env)] := by rfl)
    (he : starEach [.GeneratorExp elt [⟨.Tuple [.Name xa pa, .Name xb pb'] kt pt, .Call (.Name "enumerate" ep) [e] [] epos, [], 0⟩] scope gpos] X.env = (false, eval (.GeneratorExp elt [⟨.Tuple [.Name xa pa, .Name xb pb'] kt pt, .Call (.Name "enumerate" ep) [e] [] epos, [], 0⟩] scope gpos) X.env) :: starEach [] X.env := by rfl) :
    PE X (.Call (.Name "all" p) [.GeneratorExp elt [⟨.Tuple [.Name xa pa, .Name xb pb'] kt pt, .Call (.Name "enumerate" ep) [e] [] epos, [], 0⟩] scope gpos] [] pos) (tAllE X.K P R te) := by
  refine ⟨fun pins s σ H Q I h => call_gen hg hm hb he I (gen_pairs hr TB hcode S hs I (Call_ (ld_blt I hge hme boot_enumerate (PyProof.Rows.callWith_type1 ?_ hs1 rfl))))⟩
  rw [hs1]
  refine Calls.spliced_cons (thn (hi.run pins s σ H _ I h) fun u0 s1 r => Calls.spliced_nil ?_)
  obtain ⟨_, H1, J, isRef, a, xs, pb, rfl, sq, tab, hR, q⟩ := r
  cases isRef
  obtain ⟨its, rv, at_, _⟩ := J.list sq
  refine call_enumerate_list at_.isList fun h' isEn isIt size keep => wpAny_pyIter_enum isEn ?_
  have la : a < s1.heap.objs.size := at_.lt
  have below : s1.heap.objs.size < h'.objs.size := isIt.elim fun _ x => Heap.lt_size x.1
  obtain ⟨oa, ea, ca, _⟩ := id at_.isList
  have aP : a ≠ P := tab_ne J tab ea (.inl fun z => by rw [ca] at z; cases z)
  have lP : P < s1.heap.objs.size := tab.elim fun _ x => Heap.lt_size (show s1.heap.get? P = _ from J.hok P _ x.1)
  have W := fun (A' : Around) (calm : A'.handled = none) => (WalksT.enumerate (prog := X.prog) (w := X.w) calm (s1.heap.objs.size + 1) s1.heap.objs.size a (Nat.succ_ne_self _) (Nat.ne_of_lt (Nat.lt_succ_of_lt la)) (Nat.ne_of_lt la) its.toArray).toU
  refine ⟨_, _, _, _, _, _, _, fun i y => y = .bool (pb i), pins, σ, H1, s1, rfl, ⟨J, tab, ⟨_, _, rfl⟩, keep, Nat.le_of_lt below, fun b hb => ?_, fun b hb => ?_⟩, W, fun i vals x => ?_, ⟨⟨_, isEn⟩, isIt, at_.isList.at fun o x => keep a o x⟩, ?_, ?_⟩
  · simp only [List.mem_cons, List.not_mem_nil, or_false] at hb
    rcases hb with rfl | rfl | rfl
    · exact ⟨Heap.lt_size isEn, Nat.ne_of_gt (Nat.lt_succ_of_lt lP)⟩
    · exact ⟨below, Nat.ne_of_gt lP⟩
    · exact ⟨Nat.lt_trans la below, aP⟩
  · simp only [List.mem_cons, List.not_mem_nil, or_false] at hb
    rcases hb with rfl | rfl
    · exact Nat.le_succ _
    · exact Nat.le_refl _
  · exact x.elim fun _ x => x.elim fun _ x => ⟨_, _, x.2⟩
  · intro cenv A' E' i va vb u m T at_ ns ma mb
    obtain ⟨t, x, hx, e'⟩ := at_
    obtain ⟨rfl, rfl⟩ : va = .int i t ∧ vb = x := by simpa using congrArg Array.toList e'
    have there : its[i]? = some vb := by simpa using hx
    obtain ⟨v, hv⟩ : ∃ v, xs[i]? = some v := ⟨_, List.getElem?_eq_getElem (rv.length.symm ▸ (List.getElem?_eq_some_iff.mp there).1)⟩
    obtain ⟨w, hw, rw_⟩ := rv.get hv
    cases there.symm.trans hw
    exact hel pins σ H1 s1 xs pb J tab hR cenv A' E' i v _ _ u m T.own T.cells T.glob T.blt T.calm T.deep T.units hv ⟨t, rfl⟩ rw_ ns ma mb T.still
  · rintro g s5 ⟨fp, wr, G, F', St, W, st, _, say, held⟩
    refine call_all_walkS (W.self 0 _ _ _ st ⟨g, fp, wr, G, _, F', St, pb, rfl, W, st, truth_of say, fun s' mv => ?_⟩)
    obtain ⟨H2, grown, J2⟩ := held s' mv
    refine ⟨.bl _, H2, J2, rfl, ?_⟩
    rw [List.size_toArray, ← rv.length]
    exact q H2 grown
end
/-! ### (element for a, b in zip(list, list)), both lists of ints -/
section
variable {X : Cx} {pins : List (Addr × Obj)} {σ : L2.St} {H : Hp} {s : Shared}
theorem gen_zip {c P : Addr} {elt e1 e2 : Expr} {xa xb : Str} {pa pb pt gpos epos ep : Pos} {kt k : Nat} {scope : Scope} {t1 t2 : TE} {C : List Int → List Int → Hp → Prop} {F : List Int → List Int → Nat → Value → Prop} {Q' : Value → Shared → Prop}
    (hr : Room k X.A) (hge : Gl X "zip") (hme : X.mg "zip" = none) (TB : GxR.TabB X.base X.mg c P) (hcode : X.env.code = .ref c) (S : GenS2 X.env.scope scope xa xb) (h1 : PE X e1 t1) (h2 : PE X e2 t2)
    (hs : ∀ v, genFold (.Call (.Name "zip" ep) [e1, e2] [] epos) X.env v = pure v) (hs1 : starEach [e1, e2] X.env = (false, eval e1 X.env) :: starEach [e2] X.env) (hs2 : starEach [e2] X.env = (false, eval e2 X.env) :: starEach [] X.env)
    (hpl : (backTo epos (starEach [e2] X.env)).any (·.1) = false) (hem : starEach [] X.env = []) (I : Inv X pins σ H s)
    (h : t1 σ H fun v H1 => t2 σ H1 fun u H2 => ∃ (a b : Addr) (ns ms : List Int), v = .ref a ∧ u = .ref b ∧ SqL X.K H2 a (ns.map V.int) ∧ SqL X.K H2 b (ms.map V.int) ∧ GxR.TabG H2 P ∧ C ns ms H2)
    (turn : ∀ ns ms H2, C ns ms H2 → ∀ (cenv : Env) (A' : Around) (E' : Value → Shared → Prop) (i : Nat) (u : Shared) (m : Str → Option Value) (li : i < ns.length) (lj : i < ms.length) (t t' : Tok), cenv.scope = scope → u.heap.Ns cenv.locals m → m xa = some (.int ns[i] t) → m xb = some (.int ms[i] t') →
      wpAny (model X.prog X.w) A' (eval elt cenv) (fun y u' => F ns ms i y ∧ Keeps u u') E' u)
    (out : ∀ ns ms H2 g s5, C ns ms H2 → Walked X pins σ H2 P (min ns.length ms.length) (F ns ms) g s5 → Q' (.ref g) s5) :
    wpAny (model X.prog X.w) X.A (eval (.GeneratorExp elt [⟨.Tuple [.Name xa pa, .Name xb pb] kt pt, .Call (.Name "zip" ep) [e1, e2] [] epos, [], 0⟩] scope gpos) X.env) Q' X.xe s := by
  refine gen_pairs hr TB hcode S hs I (Call_ (ld_blt I hge hme PyProof.Rows.boot_zip (PyProof.Rows.callWith_type1 ?_ hs1 hpl)))
  rw [hs1, hs2, hem]
  refine Calls.spliced_cons (thn (h1.run pins s σ H _ I h) fun u0 s0 r0 => ?_)
  obtain ⟨v0, H0, J0, isA, q0⟩ := r0
  refine Calls.spliced_cons (thn (h2.run pins s0 σ H0 _ J0 q0) fun u1 s1 r1 => Calls.spliced_nil ?_)
  obtain ⟨v1, H1, J, isB, a, b, ns, ms, rfl, rfl, sqa, sqb, tab, hC⟩ := r1
  cases isA
  cases isB
  obtain ⟨its, rv, atA, _⟩ := J.list sqa
  obtain ⟨jts, rw_, atB, _⟩ := J.list sqb
  have lenA : ns.length = its.length := List.length_map (f := V.int) ▸ rv.length
  have lenB : ms.length = jts.length := List.length_map (f := V.int) ▸ rw_.length
  obtain ⟨oa, ea, ca, _⟩ := id atA.isList
  obtain ⟨ob, eb, cb, _⟩ := id atB.isList
  have aP : a ≠ P := tab_ne J tab ea (.inl fun z => by rw [ca] at z; cases z)
  have bP : b ≠ P := tab_ne J tab eb (.inl fun z => by rw [cb] at z; cases z)
  have lP : P < s1.heap.objs.size := tab.elim fun _ x => Heap.lt_size (show s1.heap.get? P = _ from J.hok P _ x.1)
  refine call_zip_2 atA.isList atB.isList fun h' isZ isT isO itA itB size keep => wpAny_pyIter_zip isZ ?_
  have up : ∀ j, j < 5 → s1.heap.objs.size + j < h'.objs.size ∧ s1.heap.objs.size + j ≠ P := fun j lj => ⟨size ▸ Nat.add_lt_add_left lj _, Nat.ne_of_gt (Nat.lt_of_lt_of_le lP (Nat.le_add_right _ j))⟩
  have W := fun (A' : Around) (calm : A'.handled = none) => (WalksT.zip2 (prog := X.prog) (w := X.w) calm (s1.heap.objs.size + 4) (s1.heap.objs.size + 2) (s1.heap.objs.size + 3) s1.heap.objs.size (s1.heap.objs.size + 1) a b (PySem.W.ktu_apart s1.heap.objs.size a b atA.lt atB.lt) its.toArray jts.toArray).toU
  have grown : s1.heap.objs.size ≤ h'.objs.size := Nat.le_of_lt (up 0 (by decide)).1
  refine ⟨_, _, _, _, _, _, _, F ns ms, pins, σ, H1, s1, rfl, ⟨J, tab, ⟨_, _, rfl⟩, keep, grown, fun d hd => ?_, fun d hd => ?_⟩, W, fun i vals x => ?_, ⟨isZ, isT, ⟨_, _, isO⟩, itA, itB, atA.isList.at fun o x => keep a o x, atB.isList.at fun o x => keep b o x⟩, ?_, ?_⟩
  · simp only [List.mem_cons, List.not_mem_nil, or_false] at hd
    rcases hd with rfl | rfl | rfl | rfl | rfl | rfl | rfl
    · exact up 4 (by decide)
    · exact up 2 (by decide)
    · exact up 3 (by decide)
    · exact up 0 (by decide)
    · exact up 1 (by decide)
    · exact ⟨Nat.lt_of_lt_of_le atA.lt grown, aP⟩
    · exact ⟨Nat.lt_of_lt_of_le atB.lt grown, bP⟩
  · simp only [List.mem_cons, List.not_mem_nil, or_false] at hd
    rcases hd with rfl | rfl | rfl | rfl
    · exact Nat.le_add_right _ _
    · exact Nat.le_add_right _ _
    · exact Nat.le_refl _
    · exact Nat.le_add_right _ _
  · exact x.elim fun _ x => x.elim fun _ x => ⟨_, _, x.2.2⟩
  · intro cenv A' E' i va vb u m T at_ nsm ma mb
    obtain ⟨x, y, hx, hy, e'⟩ := at_
    obtain ⟨rfl, rfl⟩ : va = x ∧ vb = y := by simpa using congrArg Array.toList e'
    have inA : its[i]? = some va := by simpa using hx
    have inB : jts[i]? = some vb := by simpa using hy
    have li : i < ns.length := lenA ▸ (List.getElem?_eq_some_iff.mp inA).1
    have lj : i < ms.length := lenB ▸ (List.getElem?_eq_some_iff.mp inB).1
    obtain ⟨w, hw, t, rfl⟩ := rv.get (getD_ints li)
    obtain ⟨w', hw', t', rfl⟩ := rw_.get (getD_ints lj)
    cases inA.symm.trans hw
    cases inB.symm.trans hw'
    exact turn ns ms H1 hC cenv A' E' i u m li lj t t' T.own nsm ma mb
  · intro g s5 x
    rw [List.size_toArray, List.size_toArray, ← lenA, ← lenB] at x
    exact out ns ms H1 g s5 hC x
/-- both names of such an expression are read from its frame -/
theorem read_two {sc scope : Scope} {cenv : Env} {A' : Around} {E' : Value → Shared → Prop} {u : Shared} {m : Str → Option Value} {xa xb : Str} {va vb : Value} {p q : Pos} {M : Model} (S : GenS2 sc scope xa xb) (own : cenv.scope = scope) (ns : u.heap.Ns cenv.locals m) (ma : m xa = some va) (mb : m xb = some vb)
    (hda : (xa == ("__debug__" : Str)) = false) (hdb : (xb == ("__debug__" : Str)) = false) :
    (∀ {Q : Value → Shared → Prop}, Q va u → wpAny M A' (eval (.Name xa p) cenv) Q E' u) ∧ ∀ {Q : Value → Shared → Prop}, Q vb u → wpAny M A' (eval (.Name xb q) cenv) Q E' u := by
  subst own
  exact ⟨fun h => wpAny_Name (wpAny_loadName_local S.kind S.la ns ma h) hda, fun h => wpAny_Name (wpAny_loadName_local S.kind S.lb ns mb h) hdb⟩
theorem at_getD {ns : List Int} {i : Nat} (li : i < ns.length) : ns.getD i 0 = ns[i] := by
  rw [List.getD_eq_getElem?_getD, List.getElem?_eq_getElem li]
  rfl
end
/-! ### all(a < b for a, b in zip(list, list)) -/
def tAllZ (K : PySem.W.Frag) (P : Addr) (t1 t2 : TE) : TE := fun σ H Q => t1 σ H fun v H1 => t2 σ H1 fun u H2 => ∃ (a b : Addr) (ns ms : List Int), v = .ref a ∧ u = .ref b ∧ SqL K H2 a (ns.map V.int) ∧ SqL K H2 b (ms.map V.int) ∧ GxR.TabG H2 P ∧
  ∀ H3, GxR.Tabbed P H2 H3 → Q (.bl ((List.range (min ns.length ms.length)).all fun i => decide (ns.getD i 0 < ms.getD i 0))) H3
section
variable {X : Cx}
theorem pe_allZip {c P : Addr} {e1 e2 : Expr} {xa xb : Str} {pa pb' pt p pos gpos epos ep q1 q2 q3 : Pos} {kt : Nat} {scope : Scope} {t1 t2 : TE} {k : Nat}
    (hr : Room k X.A) (hg : Gl X "all") (hm : X.mg "all" = none) (hb : bootBuiltins "all" = some (.builtin "all")) (hge : Gl X "zip") (hme : X.mg "zip" = none) (TB : GxR.TabB X.base X.mg c P) (hcode : X.env.code = .ref c) (S : GenS2 X.env.scope scope xa xb) (h1 : PE X e1 t1) (h2 : PE X e2 t2)
    (hda : (xa == ("__debug__" : Str)) = false) (hdb : (xb == ("__debug__" : Str)) = false)
    (hs : ∀ v, genFold (.Call (.Name "zip" ep) [e1, e2] [] epos) X.env v = pure v := by intro _; rfl)
    (hs1 : starEach [e1, e2] X.env = (false, eval e1 X.env) :: starEach [e2] X.env := by rfl) (hs2 : starEach [e2] X.env = (false, eval e2 X.env) :: starEach [] X.env := by rfl) (hpl : (backTo epos (starEach [e2] X.env)).any (·.1) = false := by rfl)
    (he : starEach [.GeneratorExp (.Compare (.Name xa q1) [.Lt] [.Name xb q2] q3) [⟨.Tuple [.Name xa pa, .Name xb pb'] kt pt, .Call (.Name "zip" ep) [e1, e2] [] epos, [], 0⟩] scope gpos] X.env = (false, eval (.GeneratorExp (.Compare (.Name xa q1) [.Lt] [.Name xb q2] q3) [⟨.Tuple [.Name xa pa, .Name xb pb'] kt pt, .Call (.Name "zip" ep) [e1, e2] [] epos, [], 0⟩] scope gpos) X.env) :: starEach [] X.env := by rfl) :
    PE X (.Call (.Name "all" p) [.GeneratorExp (.Compare (.Name xa q1) [.Lt] [.Name xb q2] q3) [⟨.Tuple [.Name xa pa, .Name xb pb'] kt pt, .Call (.Name "zip" ep) [e1, e2] [] epos, [], 0⟩] scope gpos] [] pos) (tAllZ X.K P t1 t2) := by
  refine ⟨fun pins s σ H Q I h => call_gen hg hm hb he I (gen_zip (C := fun ns ms H2 => ∀ H3, GxR.Tabbed P H2 H3 → Q (.bl ((List.range (min ns.length ms.length)).all fun i => decide (ns.getD i 0 < ms.getD i 0))) H3) (F := fun ns ms i y => y = .bool (decide (ns.getD i 0 < ms.getD i 0)))
    hr hge hme TB hcode S h1 h2 hs hs1 hs2 hpl (by rfl) I h ?_ ?_)⟩
  · intro ns ms H2 _ cenv A' E' i u m li lj t t' own nsm ma mb
    have two := read_two (M := model X.prog X.w) (A' := A') (E' := E') (p := q1) (q := q2) S own nsm ma mb hda hdb
    refine wpAny_Compare1 (two.1 (two.2 (lt_int ⟨?_, GxR.keeps_refl _⟩))) (nomark _)
    rw [at_getD li, at_getD lj]
  · rintro ns ms H2 g s5 q ⟨fp, wr, G, F', St, W, st, _, say, held⟩
    refine call_all_walkS (W.self 0 _ _ _ st ⟨g, fp, wr, G, _, F', St, _, rfl, W, st, truth_of say, fun s' mv => ?_⟩)
    obtain ⟨H3, grown, J⟩ := held s' mv
    exact ⟨.bl _, H3, J, rfl, q H3 grown⟩
end
/-! ### what stays where tables of code may grow -/
def Tb (T : List Addr) (H : Hp) : Prop := ∀ t ∈ T, GxR.TabG H t
structure Ext (T : List Addr) (H H' : Hp) : Prop where
  ext : ∀ b o, H b = some o → (∀ ps, o ≠ .tbl ps) → H' b = some o
  t0 : Tb T H
  t1 : Tb T H'
  free : ∀ b, H' b = none → H b = none
section
variable {T : List Addr} {H H1 H2 : Hp}
theorem Ext.refl (h : Tb T H) : Ext T H H := ⟨fun _ _ e _ => e, h, h, fun _ e => e⟩
theorem Ext.trans (a : Ext T H H1) (b : Ext T H1 H2) : Ext T H H2 := ⟨fun c o e n => b.ext c o (a.ext c o e n) n, a.t0, b.t1, fun c e => a.free c (b.free c e)⟩
theorem Ext.lst (a : Ext T H H1) {p : Addr} {xs : List V} (h : H p = some (.lst xs)) : H1 p = some (.lst xs) := a.ext _ _ h fun _ z => nomatch z
theorem Ext.tup (a : Ext T H H1) {p : Addr} {xs : List V} (h : H p = some (.tup xs)) : H1 p = some (.tup xs) := a.ext _ _ h fun _ z => nomatch z
theorem Ext.same (s : Same H H1) (h : Tb T H) : Ext T H H1 := ⟨fun b o e _ => s b o e, h, fun t ht => by
  obtain ⟨ps, h1, h2⟩ := h t ht
  exact ⟨ps, s _ _ h1, h2⟩, fun b e => s.free e⟩
theorem Ext.new (a : Ext T H H1) {p : Addr} {o : HO} (hp : H p = none) : Ext T H (upd H1 p o) := by
  refine ⟨fun b u e n => ?_, a.t0, fun t ht => ?_, fun b e => ?_⟩
  · rw [upd_ne (ne_of_none e hp)]
    exact a.ext b u e n
  · obtain ⟨ps, h1, h2⟩ := a.t1 t ht
    obtain ⟨qs, h3, _⟩ := a.t0 t ht
    exact ⟨ps, by rw [upd_ne (ne_of_none h3 hp)]; exact h1, h2⟩
  · by_cases z : b = p
    · subst z
      exact hp
    · rw [upd_ne z] at e
      exact a.free b e
theorem Ext.tabbed {t : Addr} (h : Tb T H) (x : GxR.Tabbed t H H1) (ht : t ∈ T) : Ext T H H1 := by
  refine ⟨fun b o e n => ?_, h, fun u hu => ?_, fun b e => ?_⟩
  · obtain ⟨ps, h1, _⟩ := h t ht
    rw [x.2 b (fun z => by rw [z, h1] at e; exact n ps (Option.some.inj e).symm)]
    exact e
  · by_cases z : u = t
    · rw [z]
      exact x.1
    · obtain ⟨ps, h1, h2⟩ := h u hu
      exact ⟨ps, by rw [x.2 u z]; exact h1, h2⟩
  · by_cases z : b = t
    · obtain ⟨ps, h1, _⟩ := x.1
      rw [z, h1] at e
      cases e
    · rw [x.2 b z] at e
      exact e
end
/-! ### shops -/
inductive Ofr where
  | pack (c : List Int) (p : Int)
  | many (c : List Int) (ts : List (Int × Int))
  | add (c : List Int) (p k : Int)
def Ofr.cont : Ofr → List Int
  | .pack c _ => c
  | .many c _ => c
  | .add c _ _ => c
def Ofr.word : Ofr → Str
  | .pack _ _ => "pack"
  | .many _ _ => "many"
  | .add _ _ _ => "add"
def TiersAt (H : Hp) (a : Addr) (ts : List (Int × Int)) : Prop := ∃ us : List Addr, H a = some (.lst (us.map V.ref)) ∧ us.length = ts.length ∧ ∀ (i : Nat) u (t : Int × Int), us[i]? = some u → ts[i]? = some t → H u = some (.tup [.int t.1, .int t.2])
def OfrAt (H : Hp) (a : Addr) : Ofr → Prop
  | .pack c p => ∃ b, H a = some (.tup [.str "pack", .ref b, .int p]) ∧ H b = some (LI c)
  | .many c ts => ∃ b t, H a = some (.tup [.str "many", .ref b, .ref t]) ∧ H b = some (LI c) ∧ TiersAt H t ts
  | .add c p k => ∃ b, H a = some (.tup [.str "add", .ref b, .int p, .int k]) ∧ H b = some (LI c)
def ShopAt (H : Hp) (a : Addr) (os : List Ofr) : Prop := ∃ vs : List Addr, H a = some (.lst (vs.map V.ref)) ∧ vs.length = os.length ∧ ∀ (i : Nat) v o, vs[i]? = some v → os[i]? = some o → OfrAt H v o
section
variable {T : List Addr} {H H1 : Hp} (e : Ext T H H1)
include e
theorem TiersAt.ext {a : Addr} {ts : List (Int × Int)} (h : TiersAt H a ts) : TiersAt H1 a ts := by
  obtain ⟨us, h1, h2, h3⟩ := h
  exact ⟨us, e.lst h1, h2, fun i u t a b => e.tup (h3 i u t a b)⟩
theorem OfrAt.ext {a : Addr} : ∀ {o : Ofr}, OfrAt H a o → OfrAt H1 a o
  | .pack c p, ⟨b, h1, h2⟩ => ⟨b, e.tup h1, e.lst h2⟩
  | .many c ts, ⟨b, t, h1, h2, h3⟩ => ⟨b, t, e.tup h1, e.lst h2, h3.ext e⟩
  | .add c p k, ⟨b, h1, h2⟩ => ⟨b, e.tup h1, e.lst h2⟩
theorem ShopAt.ext {a : Addr} {os : List Ofr} (h : ShopAt H a os) : ShopAt H1 a os := by
  obtain ⟨vs, h1, h2, h3⟩ := h
  exact ⟨vs, e.lst h1, h2, fun i v o a b => (h3 i v o a b).ext e⟩
end
/-- the offer's word and its content, whatever it is -/
theorem OfrAt.head {H : Hp} {a : Addr} : ∀ {o : Ofr}, OfrAt H a o → ∃ b r, H a = some (.tup (.str o.word :: .ref b :: r)) ∧ H b = some (LI o.cont)
  | .pack c p, ⟨b, h1, h2⟩ => ⟨b, _, h1, h2⟩
  | .many c ts, ⟨b, t, h1, h2, h3⟩ => ⟨b, _, h1, h2⟩
  | .add c p k, ⟨b, h1, h2⟩ => ⟨b, _, h1, h2⟩
theorem ShopAt.get {H : Hp} {a : Addr} {os : List Ofr} {vs : List Addr} (h : vs.length = os.length) {i : Nat} (hi : i < os.length) : ∃ v o, vs[i]? = some v ∧ os[i]? = some o ∧ (vs.map V.ref)[i]? = some (.ref v) := by
  refine ⟨vs[i]'(by omega), os[i], List.getElem?_eq_getElem (by omega), List.getElem?_eq_getElem hi, ?_⟩
  rw [List.getElem?_map, List.getElem?_eq_getElem (by omega)]
  rfl
structure GoodT (ts : List (Int × Int)) : Prop where
  pos : 1 ≤ ts.length
  few : ts.length ≤ 4
  one : ∀ t, ts[0]? = some t → t.1 = 1
  most : ∀ t ∈ ts, t.1 ≤ 12
  rise : ∀ (i : Nat) a b, ts[i]? = some a → ts[i + 1]? = some b → a.1 < b.1
def GoodO (os : List Ofr) (i : Nat) : Ofr → Prop
  | .pack _ _ => True
  | .many _ ts => GoodT ts
  | .add _ _ k => ∃ j : Nat, k = (j : Int) ∧ j < i ∧ ∃ c p, os[j]? = some (.pack c p)
def Good (os : List Ofr) : Prop := os.length ≤ 8 ∧ ∀ (i : Nat) o, os[i]? = some o → GoodO os i o
/-- F.ok with the code object told -/
theorem okc {P : Program} {w : World} {K : PySem.W.Frag} {mg : Str → Option Value} {base : Heap} {x qual : Str} {st : Stmt} {f c : Addr} {fd : FuncData} {N ps : List Str} {k : Nat} {sp : Sp} (F : Fun K x qual st f fd) (hc : fd.code = .ref c) (S : FnScope N ps (defScope st)) (len : ∀ vs H Q E, sp vs H Q E → vs.length = ps.length)
    (hbody : ∀ (cdv : Value) (A : Around) (outer : List Env) (s : Shared) (H : Hp) (vs : List V) (Q : VK) (E : XK), cdv = .ref c → Room k (A.deeper (envOfC qual (defScope st) s.heap.objs.size f cdv)) → sp vs H Q E →
      ∃ t, PSs (cxOf CX0 P w K mg base N qual (defScope st) f cdv A outer s H E).nox (defBody st) t ∧ t { nx := fun _ H' => Q .non H', rt := Q } (start N vs) H) : FnOk P w K mg base CX0 (k + 1) f fd ps sp := by
  obtain ⟨oc, od, kV, doc, pm, an, cdv, ct, osl, rfl, lk, hcd⟩ := F.ex
  refine fn_of lk hcd S len fun A outer s H vs Q E hr hsp => ?_
  obtain ⟨t, h, q⟩ := hbody cdv A outer s H vs Q E hc hr hsp
  exact ⟨t, h.nox, q⟩
/-- a list without its first -/
theorem cut1 (l : List V) : cutV l (some 1) none = l.drop 1 := by
  have a : HT.sIx l.length 0 (some ((1 : Nat) : Int)) = min 1 l.length := HT.sIx_nat _ _ _
  show (l.drop (HT.sIx l.length 0 (some ((1 : Nat) : Int)))).take (l.length - HT.sIx l.length 0 (some ((1 : Nat) : Int))) = l.drop 1
  rw [a]
  rcases Nat.eq_zero_or_pos l.length with z | z
  · rw [List.eq_nil_of_length_eq_zero z]
    rfl
  · rw [Nat.min_eq_left z]
    exact List.take_of_length_le (by rw [List.length_drop]; exact Nat.le_refl _)
/-! ### names_pack, good_tiers, can_stand, look -/
abbrev s_names_pack : Stmt := topS 6
abbrev N_names_pack : List Str := ["shop", "at", "place"]
theorem sc_names_pack : FnScope N_names_pack ["shop", "at"] (defScope s_names_pack) := ⟨rfl, rfl, rfl, by decide +kernel, rfl, by decide +kernel, by decide +kernel⟩

abbrev s_good_tiers : Stmt := topS 7
abbrev N_good_tiers : List Str := ["tiers", "begins", "begin", "price", "low", "high"]
theorem sc_good_tiers : FnScope N_good_tiers ["tiers"] (defScope s_good_tiers) := ⟨rfl, rfl, rfl, by decide +kernel, rfl, by decide +kernel, by decide +kernel⟩

abbrev s_can_stand : Stmt := topS 8
abbrev N_can_stand : List Str := ["shop", "at", "kind"]
theorem sc_can_stand : FnScope N_can_stand ["shop", "at"] (defScope s_can_stand) := ⟨rfl, rfl, rfl, by decide +kernel, rfl, by decide +kernel, by decide +kernel⟩

abbrev s_look : Stmt := topS 9
abbrev N_look : List Str := ["shop", "at"]
theorem sc_look : FnScope N_look ["shop"] (defScope s_look) := ⟨rfl, rfl, rfl, by decide +kernel, rfl, by decide +kernel, by decide +kernel⟩

def sp_names_pack : Sp := fun vs H Q _ => ∃ (a : Addr) (os : List Ofr) (i j : Nat) (c c' : List Int) (p p' : Int), vs = [.ref a, .int i] ∧ ShopAt H a os ∧ os[i]? = some (.add c p j) ∧ j < i ∧ os[j]? = some (.pack c' p') ∧ Q (.bl true) H
def sp_good_tiers (T : List Addr) : Sp := fun vs H Q _ => ∃ (a : Addr) (ts : List (Int × Int)), vs = [.ref a] ∧ TiersAt H a ts ∧ GoodT ts ∧ Tb T H ∧ ∀ H', Ext T H H' → Q (.bl true) H'
def sp_can_stand (T : List Addr) : Sp := fun vs H Q _ => ∃ (a : Addr) (os : List Ofr) (i : Nat), vs = [.ref a, .int i] ∧ ShopAt H a os ∧ Good os ∧ i < os.length ∧ Tb T H ∧ ∀ H', Ext T H H' → Q (.bl true) H'
def sp_look (T : List Addr) : Sp := fun vs H Q _ => ∃ (a : Addr) (os : List Ofr), vs = [.ref a] ∧ ShopAt H a os ∧ Good os ∧ Tb T H ∧ ∀ H', Ext T H H' → Q .non H'
section
variable {P : Program} {w : World} {K : PySem.W.Frag} {mg : Str → Option Value} {base : Heap} {T : List Addr}
theorem ok_names_pack {f : Addr} {fd : FuncData} {k : Nat} (D : Def K mg "names_pack" s_names_pack ["shop", "at"] f fd) : FnOk P w K mg base CX0 (k + 1) f fd ["shop", "at"] sp_names_pack := by
  refine D.F.ok sc_names_pack (fun vs H Q E h => ?_) (fun cdv A outer s H vs Q E hr h => ?_)
  · obtain ⟨a, os, i, j, c, c', p, p', rfl, _⟩ := h
    rfl
  · obtain ⟨a, os, i, j, c, c', p, p', rfl, ⟨vs, h1, h2, h3⟩, hi, hj, hp, q⟩ := h
    have li : i < os.length := (List.getElem?_eq_some_iff.mp hi).1
    obtain ⟨v, o, g1, g2, g3⟩ := ShopAt.get (H := H) (a := a) h2 li
    cases Option.some.inj (g2.symm.trans hi)
    obtain ⟨b, hb, _⟩ := h3 i v _ g1 g2
    obtain ⟨v', o', g4, g5, g6⟩ := ShopAt.get (H := H) (a := a) h2 (show j < os.length by omega)
    cases Option.some.inj (g5.symm.trans hp)
    obtain ⟨b', hb', _⟩ := h3 j v' _ g4 g5
    refine ⟨_, (pss_cons (ps_set (i := 2) sc_names_pack.nd rfl (Or.inl rfl) (pe_ix ix_tup (pe_ix ix_list (pv 0) (pv 1) (fun _ _ => rfl)) pe_int (fun _ _ => rfl)))
  (pss_one (ps_ret (pe_and (pe_chain op_le op_lt pe_int (pv 2) (pv 1)) (pe_one (pe_cmpR op_eq (pe_ix ix_tup (pe_ix ix_list (pv 0) (pv 2) (fun _ _ => rfl)) pe_int (fun _ _ => rfl)) pe_str (nomark _))))))), ?_⟩
    refine ⟨_, rfl, _, rfl, a, _, _, _, rfl, rfl, SqL.of h1, atI_nat g3, v, _, _, _, rfl, rfl, SqT.of hb, atI_nat (j := 3) rfl, ?_⟩
    refine ⟨_, rfl, _, _, rfl, rfl, true, (by show V.bl _ = V.bl _; rw [decide_eq_true (by omega)]), _, rfl, _, _, rfl, rfl, true, (by show V.bl _ = V.bl _; rw [decide_eq_true (by omega)]), ?_⟩
    refine ⟨_, rfl, _, rfl, a, _, _, _, rfl, rfl, SqL.of h1, atI_nat g6, v', _, _, _, rfl, rfl, SqT.of hb', atI_nat (j := 0) rfl, rfl, q⟩
theorem ok_good_tiers {f c t : Addr} {fd : FuncData} {k : Nat} (M : Names mg) (D : Def K mg "good_tiers" s_good_tiers ["tiers"] f fd) (hc : fd.code = .ref c) (TB : GxR.TabB base mg c t) (ht : t ∈ T) : FnOk P w K mg base CX0 (k + 1) f fd ["tiers"] (sp_good_tiers T) := by
  obtain ⟨t4, m_MOST_TIERS⟩ := M.c_MOST_TIERS
  obtain ⟨t12, m_MOST_PIECES⟩ := M.c_MOST_PIECES
  refine okc D.F hc sc_good_tiers (fun vs H Q E h => ?_) (fun cdv A outer s H vs Q E ec hr h => ?_)
  · obtain ⟨a, ts, rfl, _⟩ := h
    rfl
  · obtain ⟨a, ts, rfl, ⟨us, h1, h2, h3⟩, gd, hT, q⟩ := h
    refine ⟨_, (pss_cons (ps_setLc (i := 1) (own := [("begin", 2), ("price", 3)]) (by rfl) sc_good_tiers.nd rfl rfl (sw_true rfl rfl rfl (by decide +kernel)) (pi_list (pv 0)) (blkOk_by (own := [("begin", 2), ("price", 3)]) (N := N_good_tiers) (sc := defScope s_good_tiers) (by decide +kernel)) (fun _ _ _ _ _ => (pg_tupK (K := K) (n := 2) rfl rfl (pgs_cons (pg_name (i := 2) sc_good_tiers.nd rfl (Or.inl rfl)) (pgs_cons (pg_name (i := 3) sc_good_tiers.nd rfl (Or.inl rfl)) pgs_nil)))) (fun _ _ _ _ _ => pts_nil) (fun _ _ _ _ _ => (pv 2)))
  (pss_cons (ps_if (pt_not (pt_chain op_le op_le pe_int (pe_callB call_len_seq (by rfl) M.len (by decide +kernel) (pa_cons (pv 1) pa_nil)) (pe_glob (v := .int 4) (by rfl) m_MOST_TIERS ⟨_, rfl⟩)))
   (pss_one (ps_ret pe_bl))
   pss_nil)
  (pss_cons (ps_if (PW.pt (pw_or (pt_cmpR op_ne (pe_ix ix_list (pv 1) pe_int (fun _ _ => rfl)) pe_int (nomark _)) (pw_or1 (pt_cmpR op_gt (pe_ix ix_list (pv 1) (pe_un un_neg pe_int) (fun _ _ => rfl)) (pe_glob (v := .int 12) (by rfl) m_MOST_PIECES ⟨_, rfl⟩) (nomark _)))))
   (pss_one (ps_ret pe_bl))
   pss_nil)
  (pss_one (ps_ret (pe_allZip hr (by rfl) M.all (by decide +kernel) (by rfl) M.zip TB ec ⟨rfl, rfl, by decide +kernel, rfl, rfl, rfl, by decide, (by show ∀ y : Str × NameKind, y ∈ _ → y.2 = .free → (defScope s_good_tiers).names.lookup y.1 = some .cell; decide +kernel)⟩ (pv 1) (pe_slice sl_list (pv 1) (po_some pe_int) po_none) (by decide) (by decide))))))), ?_⟩
    have pos := gd.pos
    have few := gd.few
    refine ⟨_, rfl, a, rfl, ⟨_, SqL.of h1⟩, fun B nB => lc_list (xs := us.map V.ref) (fun i H' => Same H H' ∧ H' B = some (LI ((ts.take i).map (·.1)))) ⟨same_upd nB, upd_same⟩ (fun i H' _ hp => SqL.of (hp.1 _ _ h1)) (fun i x H1 hx hp => ?_) (fun H1 hp => ?_)⟩
    · obtain ⟨s1, hB⟩ := hp
      rw [List.getElem?_map] at hx
      cases hu : us[i]? with
      | none => rw [hu] at hx; cases hx
      | some u =>
        rw [hu] at hx
        cases Option.some.inj hx
        have hi : i < ts.length := by
          have := (List.getElem?_eq_some_iff.mp hu).1
          omega
        have gt := List.getElem?_eq_getElem hi
        refine ⟨u, _, rfl, SqT.of (s1 _ _ (h3 i u _ hu gt)), rfl, _, _, rfl, _, _, rfl, rfl, rfl, _, rfl, _, hB, szL' (by rw [List.length_map, List.length_map, List.length_take]; omega), sm_new s1 nB, ?_⟩
        rw [take_succ_at gt, List.map_append]
        exact at_app
    · obtain ⟨s1, hB⟩ := hp
      rw [List.length_map, h2, List.take_length] at hB
      generalize hbs : ts.map (·.1) = bs at hB
      have lbs : bs.length = ts.length := by rw [← hbs, List.length_map]
      have gbs : ∀ (i : Nat) t, ts[i]? = some t → bs[i]? = some t.1 := fun i t h => by rw [← hbs, List.getElem?_map, h]; rfl
      have gbs0 : ∀ i, i < bs.length → ∃ t, ts[i]? = some t ∧ bs[i]? = some t.1 := fun i hi => ⟨ts[i]'(by omega), List.getElem?_eq_getElem (by omega), gbs _ _ (List.getElem?_eq_getElem (by omega))⟩
      have hE : Ext T H H1 := .same s1 hT
      -- not 1 <= len(begins) <= MOST_TIERS
      refine ⟨_, rfl, B, _, rfl, .inl (SqL.of hB), _, _, rfl, rfl, true, (by show V.bl _ = V.bl _; rw [decide_eq_true (by rw [List.length_map]; omega)]), _, _, rfl, rfl, true, (by show V.bl _ = V.bl _; rw [decide_eq_true (by rw [List.length_map]; omega)]), ?_⟩
      -- begins[0] != 1 or begins[-1] > MOST_PIECES
      obtain ⟨x0, k1, k2⟩ := gbs0 0 (by omega)
      have e1 : x0.1 = 1 := gd.one _ k1
      refine ⟨_, rfl, B, _, _, _, rfl, rfl, SqL.of hB, atI_nat (j := 0) (get_ints k2), rfl, _, rfl, iteNS (by rw [e1]) ?_⟩
      obtain ⟨x1, k3, k4⟩ := gbs0 (bs.length - 1) (by omega)
      have hneg : atI (bs.map V.int) (-1) = some (.int x1.1) := by
        have e : bs.map V.int = (bs.map V.int).take (bs.length - 1) ++ [.int x1.1] := by
          rw [← take_succ_at (get_ints k4), show bs.length - 1 + 1 = bs.length by omega]
          exact (List.take_of_length_le (by rw [List.length_map]; exact Nat.le_refl _)).symm
        rw [e]
        exact atI_last _ _
      have hm := gd.most x1 (List.mem_of_getElem? k3)
      refine ⟨_, rfl, 1, rfl, B, _, -1, _, rfl, rfl, SqL.of hB, hneg, _, _, rfl, rfl, _, rfl, ?_⟩
      rw [decide_eq_false (by omega)]
      -- all(..)
      refine ⟨_, rfl, _, rfl, 1, rfl, B, _, rfl, SqL.of hB, fun z nz => ⟨B, z, bs, bs.drop 1, rfl, rfl, SqL.of ((same_upd nz) _ _ hB), SqL.of (by rw [upd_same]; congr 2; rw [List.map_drop]; exact cut1 _), (hE.new (s1.free nz)).t1 t ht, fun H3 t3 => ?_⟩⟩
      have all1 : ((List.range (min bs.length (bs.drop 1).length)).all fun i => decide (bs.getD i 0 < (bs.drop 1).getD i 0)) = true := by
        rw [List.all_eq_true]
        intro i hi
        have hi2 := List.mem_range.mp hi
        rw [List.length_drop] at hi2
        obtain ⟨y0, z1, z2⟩ := gbs0 i (by omega)
        obtain ⟨y1, z3, z4⟩ := gbs0 (i + 1) (by omega)
        have := gd.rise i y0 y1 z1 z3
        refine decide_eq_true ?_
        rw [List.getD_eq_getElem?_getD, z2, List.getD_eq_getElem?_getD, List.getElem?_drop, Nat.add_comm 1 i, z4]
        exact this
      rw [all1]
      exact q H3 ((hE.new (s1.free nz)).trans (.tabbed (hE.new (s1.free nz)).t1 t3 ht))
theorem ok_can_stand {f f1 f2 c t : Addr} {fd fd1 fd2 : FuncData} {k : Nat} (M : Names mg) (D : Def K mg "can_stand" s_can_stand ["shop", "at"] f fd) (D_names_pack : Def K mg "names_pack" s_names_pack ["shop", "at"] f1 fd1) (D_good_tiers : Def K mg "good_tiers" s_good_tiers ["tiers"] f2 fd2)
    (hc : fd2.code = .ref c) (TB : GxR.TabB base mg c t) (ht : t ∈ T) : FnOk P w K mg base CX0 (k + 2) f fd ["shop", "at"] (sp_can_stand T) := by
  have G_names_pack : FnOk P w K mg base CX0 (k + 1) f1 fd1 ["shop", "at"] sp_names_pack := ok_names_pack D_names_pack
  have G_good_tiers : FnOk P w K mg base CX0 (k + 1) f2 fd2 ["tiers"] (sp_good_tiers T) := ok_good_tiers M D_good_tiers hc TB ht
  refine D.F.ok sc_can_stand (fun vs H Q E h => ?_) (fun cdv A outer s H vs Q E hr h => ?_)
  · obtain ⟨a, os, i, rfl, _⟩ := h
    rfl
  · obtain ⟨a, os, i, rfl, ⟨vs, h1, h2, h3⟩, gd, hi, hT, q⟩ := h
    obtain ⟨v, o, g1, g2, g3⟩ := ShopAt.get (H := H) (a := a) h2 hi
    have ho := h3 i v o g1 g2
    have hg := gd.2 i o g2
    refine ⟨_, (pss_cons (ps_set (i := 2) sc_can_stand.nd rfl (Or.inl rfl) (pe_ix ix_tup (pe_ix ix_list (pv 0) (pv 1) (fun _ _ => rfl)) pe_int (fun _ _ => rfl)))
  (pss_cons (ps_if (pt_cmpR op_eq (pv 2) pe_str (nomark _))
   (pss_one (ps_ret (pe_call G_names_pack hr (by rfl) D_names_pack.g D_names_pack.F.kp D_names_pack.b .nil pass0 (pa_cons (pv 0) (pa_cons (pv 1) pa_nil)))))
   pss_nil)
  (pss_cons (ps_if (pt_cmpR op_eq (pv 2) pe_str (nomark _))
   (pss_one (ps_ret (pe_call G_good_tiers hr (by rfl) D_good_tiers.g D_good_tiers.F.kp D_good_tiers.b .nil pass0 (pa_cons (pe_ix ix_tup (pe_ix ix_list (pv 0) (pv 1) (fun _ _ => rfl)) pe_int (fun _ _ => rfl)) pa_nil))))
   pss_nil)
  (pss_one (ps_ret pe_bl))))), ?_⟩
    cases o with
    | pack c p =>
      obtain ⟨b, hb, _⟩ := ho
      refine ⟨_, rfl, _, rfl, a, _, _, _, rfl, rfl, SqL.of h1, atI_nat g3, v, _, _, _, rfl, rfl, SqT.of hb, atI_nat (j := 0) rfl, ?_⟩
      refine ⟨_, rfl, rfl, false, rfl, ?_⟩
      refine ⟨_, rfl, rfl, false, rfl, ?_⟩
      exact q H (.refl hT)
    | many c ts =>
      obtain ⟨b, t', hb, _, hts⟩ := ho
      refine ⟨_, rfl, _, rfl, a, _, _, _, rfl, rfl, SqL.of h1, atI_nat g3, v, _, _, _, rfl, rfl, SqT.of hb, atI_nat (j := 0) rfl, ?_⟩
      refine ⟨_, rfl, rfl, false, rfl, ?_⟩
      refine ⟨_, rfl, rfl, true, rfl, ?_⟩
      exact ⟨_, rfl, _, rfl, a, _, _, _, rfl, rfl, SqL.of h1, atI_nat g3, v, _, _, _, rfl, rfl, SqT.of hb, atI_nat (j := 2) rfl, t', ts, rfl, hts, hg, hT, q⟩
    | add c p kk =>
      obtain ⟨b, hb, _⟩ := ho
      obtain ⟨j, rfl, hj, c', p', hp⟩ := hg
      refine ⟨_, rfl, _, rfl, a, _, _, _, rfl, rfl, SqL.of h1, atI_nat g3, v, _, _, _, rfl, rfl, SqT.of hb, atI_nat (j := 0) rfl, ?_⟩
      refine ⟨_, rfl, rfl, true, rfl, ?_⟩
      exact ⟨_, rfl, _, rfl, a, os, i, j, c, c', p, p', rfl, ⟨vs, h1, h2, h3⟩, g2, hj, hp, q H (.refl hT)⟩
theorem ok_look {f f0 f1 f2 c t : Addr} {fd fd0 fd1 fd2 : FuncData} {k : Nat} (M : Names mg) (D : Def K mg "look" s_look ["shop"] f fd) (D_can_stand : Def K mg "can_stand" s_can_stand ["shop", "at"] f0 fd0) (D_names_pack : Def K mg "names_pack" s_names_pack ["shop", "at"] f1 fd1) (D_good_tiers : Def K mg "good_tiers" s_good_tiers ["tiers"] f2 fd2)
    (hc : fd2.code = .ref c) (TB : GxR.TabB base mg c t) (ht : t ∈ T) : FnOk P w K mg base CX0 (k + 3) f fd ["shop"] (sp_look T) := by
  have G_can_stand : FnOk P w K mg base CX0 (k + 2) f0 fd0 ["shop", "at"] (sp_can_stand T) := ok_can_stand M D_can_stand D_names_pack D_good_tiers hc TB ht
  refine D.F.ok sc_look (fun vs H Q E h => ?_) (fun cdv A outer s H vs Q E hr h => ?_)
  · obtain ⟨a, os, rfl, _⟩ := h
    rfl
  · obtain ⟨a, os, rfl, hS, gd, hT, q⟩ := h
    obtain ⟨vs, h1, h2, h3⟩ := id hS
    have l100 := gd.1
    refine ⟨_, (pss_one (ps_for PassesOwn.never rfl (pi_range1 (by rfl) M.range (pa_cons (pe_callB call_len_seq (by rfl) M.len (by decide +kernel) (pa_cons (pv 0) pa_nil)) pa_nil)) (pg_name (i := 1) sc_look.nd rfl (Or.inl rfl))
   (pss_one (ps_if (pt_not (pt_val (pe_call G_can_stand hr (by rfl) D_can_stand.g D_can_stand.F.kp D_can_stand.b .nil pass0 (pa_cons (pv 0) (pa_cons (pv 1) pa_nil)))))
   (pss_one ps_never)
   pss_nil)))), ?_⟩
    refine ⟨_, rfl, a, _, rfl, .inl (SqL.of h1), _, rfl, by omega, by rw [List.length_map]; omega, for_range (n := (((vs.map V.ref).length : Nat) : Int).toNat) (fun i σ H' => ∃ y1, σ = [some (.ref a), y1] ∧ Ext T H H') ⟨none, rfl, .refl hT⟩ (fun i σ H1 hi hp => ?_) (fun σ H1 hp => ?_)⟩
    · obtain ⟨y1, rfl, e1⟩ := hp
      rw [Int.toNat_natCast, List.length_map] at hi
      refine ⟨_, rfl, _, rfl, a, os, i, by show [V.ref a, V.int (0 + (i : Int))] = _; rw [Int.zero_add], hS.ext e1, gd, by omega, e1.t1, fun H2 e2 => ⟨true, rfl, ?_⟩⟩
      exact ⟨_, rfl, e1.trans e2⟩
    · obtain ⟨y1, rfl, e1⟩ := hp
      exact q H1 e1
end
/-! ### lines, as lists -/
/-- place by place -/
def Al {α : Type} (R : Addr → α → Prop) : List Addr → List α → Prop
  | [], [] => True
  | a :: as, x :: xs => R a x ∧ Al R as xs
  | _, _ => False
section
variable {α : Type} {R R' : Addr → α → Prop}
theorem Al.len : ∀ {as : List Addr} {xs : List α}, Al R as xs → as.length = xs.length
  | [], [], _ => rfl
  | [], _ :: _, h => h.elim
  | _ :: _, [], h => h.elim
  | _ :: _, _ :: _, h => by rw [List.length_cons, List.length_cons, Al.len h.2]
theorem Al.app : ∀ {as bs : List Addr} {xs ys : List α}, Al R as xs → Al R bs ys → Al R (as ++ bs) (xs ++ ys)
  | [], _, [], _, _, k => k
  | [], _, _ :: _, _, h, _ => h.elim
  | _ :: _, _, [], _, h, _ => h.elim
  | _ :: _, _, _ :: _, _, h, k => ⟨h.1, Al.app h.2 k⟩
theorem Al.imp (f : ∀ a x, R a x → R' a x) : ∀ {as : List Addr} {xs : List α}, Al R as xs → Al R' as xs
  | [], [], _ => True.intro
  | [], _ :: _, h => h.elim
  | _ :: _, [], h => h.elim
  | _ :: _, _ :: _, h => ⟨f _ _ h.1, Al.imp f h.2⟩
theorem Al.impM : ∀ {as : List Addr} {xs : List α}, (∀ a x, a ∈ as → R a x → R' a x) → Al R as xs → Al R' as xs
  | [], [], _, _ => True.intro
  | [], _ :: _, _, h => h.elim
  | _ :: _, [], _, h => h.elim
  | _ :: _, _ :: _, f, h => ⟨f _ _ List.mem_cons_self h.1, Al.impM (fun a x m => f a x (List.mem_cons_of_mem _ m)) h.2⟩
theorem Al.get : ∀ {as : List Addr} {xs : List α} {i : Nat} {a : Addr}, Al R as xs → as[i]? = some a → ∃ x, xs[i]? = some x ∧ R a x
  | [], [], _, _, _, e => by simp at e
  | [], _ :: _, _, _, h, _ => h.elim
  | _ :: _, [], _, _, h, _ => h.elim
  | _ :: _, x :: _, 0, _, h, e => by cases Option.some.inj e; exact ⟨x, rfl, h.1⟩
  | _ :: _, _ :: _, i + 1, _, h, e => Al.get (i := i) h.2 e
theorem Al.drop1 : ∀ {as : List Addr} {xs : List α}, Al R as xs → Al R (as.drop 1) xs.tail
  | [], [], _ => True.intro
  | [], _ :: _, h => h.elim
  | _ :: _, [], h => h.elim
  | _ :: _, _ :: _, h => h.2
theorem Al.one {a : Addr} {x : α} (h : R a x) : Al R [a] [x] := ⟨h, True.intro⟩
end
/-- a new list of ints, apart from C -/
def RowB (H0 H : Hp) (C : Addr) (a : Addr) (r : List Int) : Prop := H a = some (LI r) ∧ H0 a = none ∧ a ≠ C
def RowF (H0 H : Hp) (a : Addr) (r : List Int) : Prop := H a = some (LI r) ∧ H0 a = none
theorem RowB.keep {H0 H H' : Hp} {C a : Addr} {r : List Int} (s : SameBut C H H') (h : RowB H0 H C a r) : RowB H0 H' C a r := ⟨s _ _ h.2.2 h.1, h.2⟩
theorem RowF.keep {H0 H H' : Hp} {a : Addr} {r : List Int} (s : Same H H') (h : RowF H0 H a r) : RowF H0 H' a r := ⟨s _ _ h.1, h.2⟩
theorem RowB.toF {H0 H : Hp} {C a : Addr} {r : List Int} (h : RowB H0 H C a r) : RowF H0 H a r := ⟨h.1, h.2.1⟩
structure Ln where
  p : Int
  c : Int
  as : List Int
/-- a line, its tuple and its list new -/
def LineF (H0 H : Hp) (a : Addr) (l : Ln) : Prop := ∃ b, H a = some (.tup [.int l.p, .int l.c, .ref b]) ∧ H b = some (LI l.as) ∧ H0 a = none ∧ H0 b = none
def LineB (H0 H : Hp) (B : Addr) (a : Addr) (l : Ln) : Prop := ∃ b, H a = some (.tup [.int l.p, .int l.c, .ref b]) ∧ H b = some (LI l.as) ∧ H0 a = none ∧ H0 b = none ∧ a ≠ B ∧ b ≠ B
theorem LineB.keep {H0 H H' : Hp} {B a : Addr} {l : Ln} (s : SameBut B H H') (h : LineB H0 H B a l) : LineB H0 H' B a l := by
  obtain ⟨b, h1, h2, h3, h4, h5, h6⟩ := h
  exact ⟨b, s _ _ h5 h1, s _ _ h6 h2, h3, h4, h5, h6⟩
theorem LineB.toF {H0 H : Hp} {B a : Addr} {l : Ln} (h : LineB H0 H B a l) : LineF H0 H a l := by
  obtain ⟨b, h1, h2, h3, h4, _⟩ := h
  exact ⟨b, h1, h2, h3, h4⟩
theorem LineF.toB {H0 H1 H : Hp} {B a : Addr} {l : Ln} (h : LineF H1 H a l) (f : ∀ b, H1 b = none → H0 b = none) (hB : H1 B ≠ none) : LineB H0 H B a l := by
  obtain ⟨b, h1, h2, h3, h4⟩ := h
  exact ⟨b, h1, h2, f _ h3, f _ h4, fun z => hB (by rw [← z]; exact h3), fun z => hB (by rw [← z]; exact h4)⟩
def LinesF (H0 H : Hp) (q : Addr) (ls : List Ln) : Prop := ∃ as : List Addr, H q = some (.lst (as.map V.ref)) ∧ Al (LineF H0 H) as ls
def isAdd (os : List Ofr) (p : Int) (i : Nat) : Bool := match os[i]? with
  | some (.add _ _ k) => decide (k = p)
  | _ => false
def addsN (os : List Ofr) (p : Int) (n : Nat) : List Int := ((List.range n).filter (isAdd os p)).map fun (i : Nat) => (i : Int)
def addsM (os : List Ofr) (p : Int) : List Int := addsN os p os.length
theorem addsN_len (os : List Ofr) (p : Int) (n : Nat) : (addsN os p n).length ≤ n := by
  unfold addsN
  rw [List.length_map]
  exact Nat.le_trans (List.length_filter_le _ _) (by rw [List.length_range]; exact Nat.le_refl _)
theorem addsN_yes {os : List Ofr} {p : Int} {n : Nat} (h : isAdd os p n = true) : addsN os p (n + 1) = addsN os p n ++ [(n : Int)] := by
  unfold addsN
  rw [List.range_succ, List.filter_append, List.map_append]
  simp [h]
theorem addsN_no {os : List Ofr} {p : Int} {n : Nat} (h : isAdd os p n = false) : addsN os p (n + 1) = addsN os p n := by
  unfold addsN
  rw [List.range_succ, List.filter_append, List.map_append]
  simp [h]
def choicesM : List Int → List (List Int)
  | [] => [[]]
  | p :: ps => ([[]] ++ (choicesM ps).map (p :: ·)) ++ (choicesM ps).tail
theorem choicesM_len : ∀ ps : List Int, (choicesM ps).length = 2 ^ ps.length
  | [] => rfl
  | p :: ps => by
    have ih := choicesM_len ps
    have pos : 0 < 2 ^ ps.length := Nat.pow_pos (by decide)
    show (([[]] ++ (choicesM ps).map (p :: ·)) ++ (choicesM ps).tail).length = 2 ^ (ps.length + 1)
    rw [List.length_append, List.length_append, List.length_map, List.length_tail, ih, Nat.pow_succ]
    show 1 + 2 ^ ps.length + (2 ^ ps.length - 1) = _
    omega
theorem choicesM_le {ps : List Int} (h : ps.length ≤ 8) : (choicesM ps).length ≤ 256 := by
  rw [choicesM_len]
  exact Nat.le_trans (Nat.pow_le_pow_right (by decide) h) (by decide)
def linesAtM (os : List Ofr) (p : Nat) : List Ln := match os[p]? with
  | some (.pack _ _) => (choicesM (addsM os p)).map fun c => ⟨p, 1, c⟩
  | some (.many _ _) => (List.range 12).map fun i => ⟨p, 1 + (i : Nat), []⟩
  | _ => []
def linesM (os : List Ofr) : List Ln := (List.range os.length).flatMap (linesAtM os)
theorem linesAtM_len {os : List Ofr} (h : os.length ≤ 8) (p : Nat) : (linesAtM os p).length ≤ 256 := by
  unfold linesAtM
  split
  · rw [List.length_map]
    exact choicesM_le (Nat.le_trans (addsN_len _ _ _) h)
  · rw [List.length_map, List.length_range]
    decide
  · decide
theorem linesN_len {os : List Ofr} (h : os.length ≤ 8) : ∀ n : Nat, ((List.range n).flatMap (linesAtM os)).length ≤ n * 256
  | 0 => by simp
  | n + 1 => by
    have ih := linesN_len h n
    have := linesAtM_len h n
    rw [List.range_succ, List.flatMap_append, List.length_append, List.flatMap_singleton]
    omega
theorem OfrAt.same {H H' : Hp} (s : Same H H') {a : Addr} : ∀ {o : Ofr}, OfrAt H a o → OfrAt H' a o
  | .pack c p, ⟨b, h1, h2⟩ => ⟨b, s _ _ h1, s _ _ h2⟩
  | .many c ts, ⟨b, t, h1, h2, us, h3, h4, h5⟩ => ⟨b, t, s _ _ h1, s _ _ h2, us, s _ _ h3, h4, fun i u t a b => s _ _ (h5 i u t a b)⟩
  | .add c p k, ⟨b, h1, h2⟩ => ⟨b, s _ _ h1, s _ _ h2⟩
theorem ShopAt.same {H H' : Hp} (s : Same H H') {a : Addr} {os : List Ofr} (h : ShopAt H a os) : ShopAt H' a os := by
  obtain ⟨vs, h1, h2, h3⟩ := h
  exact ⟨vs, s _ _ h1, h2, fun i v o a b => (h3 i v o a b).same s⟩
/-! ### adds_to, choices -/
abbrev s_adds_to : Stmt := topS 10
abbrev N_adds_to : List Str := ["shop", "place", "at", "offer"]
theorem sc_adds_to : FnScope N_adds_to ["shop", "place"] (defScope s_adds_to) := ⟨rfl, rfl, rfl, by decide +kernel, rfl, by decide +kernel, by decide +kernel⟩

abbrev s_choices : Stmt := topS 11
abbrev N_choices : List Str := ["places", "told", "place", "chosen"]
theorem sc_choices : FnScope N_choices ["places"] (defScope s_choices) := ⟨rfl, rfl, rfl, by decide +kernel, rfl, by decide +kernel, by decide +kernel⟩

abbrev s_lines_at : Stmt := topS 12
abbrev N_lines_at : List Str := ["shop", "place", "kind", "adds", "count"]
theorem sc_lines_at : FnScope N_lines_at ["shop", "place"] (defScope s_lines_at) := ⟨rfl, rfl, rfl, by decide +kernel, rfl, by decide +kernel, by decide +kernel⟩

abbrev s_lines : Stmt := topS 13
abbrev N_lines : List Str := ["shop", "place", "line"]
theorem sc_lines : FnScope N_lines ["shop"] (defScope s_lines) := ⟨rfl, rfl, rfl, by decide +kernel, rfl, by decide +kernel, by decide +kernel⟩

def sp_adds_to : Sp := fun vs H Q _ => ∃ (a : Addr) (os : List Ofr) (p : Nat), vs = [.ref a, .int p] ∧ ShopAt H a os ∧ os.length ≤ 8 ∧ ∀ H' q, Same H H' → H q = none → H' q = some (LI (addsM os p)) → Q (.ref q) H'
def sp_choices : Sp := fun vs H Q _ => ∃ (a : Addr) (ps : List Int), vs = [.ref a] ∧ H a = some (LI ps) ∧ ps.length ≤ 8 ∧ ∀ H' q (as : List Addr), Same H H' → H q = none → H' q = some (.lst (as.map V.ref)) → Al (RowF H H') as (choicesM ps) → Q (.ref q) H'
def sp_lines_at : Sp := fun vs H Q _ => ∃ (a : Addr) (os : List Ofr) (p : Nat), vs = [.ref a, .int p] ∧ ShopAt H a os ∧ os.length ≤ 8 ∧ p < os.length ∧ ∀ H' q, Same H H' → H q = none → LinesF H H' q (linesAtM os p) → Q (.ref q) H'
def sp_lines (T : List Addr) : Sp := fun vs H Q _ => ∃ (a : Addr) (os : List Ofr), vs = [.ref a] ∧ ShopAt H a os ∧ Good os ∧ Tb T H ∧ ∀ H' q, Ext T H H' → H q = none → LinesF H H' q (linesM os) → Q (.ref q) H'
section
variable {P : Program} {w : World} {K : PySem.W.Frag} {mg : Str → Option Value} {base : Heap} {T : List Addr}
theorem ok_adds_to {f : Addr} {fd : FuncData} {k : Nat} (M : Names mg) (D : Def K mg "adds_to" s_adds_to ["shop", "place"] f fd) : FnOk P w K mg base CX0 (k + 1) f fd ["shop", "place"] sp_adds_to := by
  refine D.F.ok sc_adds_to (fun vs H Q E h => ?_) (fun cdv A outer s H vs Q E hr h => ?_)
  · obtain ⟨a, os, p, rfl, _⟩ := h
    rfl
  · obtain ⟨a, os, p, rfl, ⟨vs, h1, h2, h3⟩, h8, q⟩ := h
    refine ⟨_, (pss_one (ps_ret (pe_lc (own := [("at", 2), ("offer", 3)]) (by rfl) sc_adds_to.nd (pi_enum (by rfl) M.enumerate (pa_cons (pv 0) pa_nil)) (blkOk_by (own := [("at", 2), ("offer", 3)]) (N := N_adds_to) (sc := defScope s_adds_to) (by decide +kernel)) (fun _ _ _ _ _ => (pg_tupK (K := K) (n := 2) rfl rfl (pgs_cons (pg_name (i := 2) sc_adds_to.nd rfl (Or.inl rfl)) (pgs_cons (pg_name (i := 3) sc_adds_to.nd rfl (Or.inl rfl)) pgs_nil)))) (fun _ _ _ _ _ => (pts_one (PW.pt (pw_and (pt_cmpR op_eq (pe_ix (ix_tupK (K := K) rfl) (pv 3) pe_int (fun _ _ => rfl)) pe_str (nomark _)) (pw_and1 (pt_cmpR op_eq (pe_ix (ix_tupK (K := K) rfl) (pv 3) pe_int (fun _ _ => rfl)) (pv 1) (nomark _))))))) (fun _ _ _ _ _ => (pv 2))))), ?_⟩
    refine ⟨_, rfl, a, _, rfl, SqL.of h1, fun B nB => lc_it (walk_enum (xs := vs.map V.ref)) (fun i H' => Same H H' ∧ H' B = some (LI (addsN os p i))) ⟨same_upd nB, upd_same⟩ (fun i H' _ hp => SqL.of (hp.1 _ _ h1)) (fun i x H1 H2 hi hp hy => ?_) (fun H1 hp => ?_)⟩
    · obtain ⟨s1, hB⟩ := hp
      obtain ⟨Tt, x1, x2, rfl, nT, rfl, e1, e2⟩ := hy
      cases Option.some.inj e1
      rw [List.length_map] at hi
      obtain ⟨v, o, g1, g2, g3⟩ := ShopAt.get (H := H) (a := a) h2 (show i < os.length by omega)
      have e2' : (vs.map V.ref)[i]? = some x2 := e2
      rw [g3] at e2'
      cases Option.some.inj e2'
      have s2 : Same H (upd H1 Tt (.tup [.int (i : Nat), .ref v])) := s1.trans (same_upd nT)
      have hB2 : upd H1 Tt (.tup [.int (i : Nat), .ref v]) B = some (LI (addsN os p i)) := (same_upd nT) _ _ hB
      have ho := (h3 i v o g1 g2).same s2
      have nlen := addsN_len os p i
      cases o with
      | pack c pr =>
        obtain ⟨b, hb, _⟩ := ho
        have hn : isAdd os p i = false := by unfold isAdd; rw [g2]
        refine ⟨Tt, _, rfl, SqT.of upd_same, rfl, _, _, rfl, _, _, rfl, rfl, rfl, _, rfl, v, _, _, _, rfl, rfl, SqT.of hb, atI_nat (j := 0) rfl, rfl, false, rfl, ?_⟩
        exact ⟨s2, by rw [addsN_no hn]; exact hB2⟩
      | many c ts =>
        obtain ⟨b, t', hb, _⟩ := ho
        have hn : isAdd os p i = false := by unfold isAdd; rw [g2]
        refine ⟨Tt, _, rfl, SqT.of upd_same, rfl, _, _, rfl, _, _, rfl, rfl, rfl, _, rfl, v, _, _, _, rfl, rfl, SqT.of hb, atI_nat (j := 0) rfl, rfl, false, rfl, ?_⟩
        exact ⟨s2, by rw [addsN_no hn]; exact hB2⟩
      | add c pr kk =>
        obtain ⟨b, hb, _⟩ := ho
        refine ⟨Tt, _, rfl, SqT.of upd_same, rfl, _, _, rfl, _, _, rfl, rfl, rfl, _, rfl, v, _, _, _, rfl, rfl, SqT.of hb, atI_nat (j := 0) rfl, rfl, true, rfl, ?_⟩
        refine ⟨_, rfl, v, _, _, _, rfl, rfl, SqT.of hb, atI_nat (j := 3) rfl, _, rfl, rfl, _, rfl, ite2 (fun c => ?_) (fun c => ?_)⟩
        · have ek : kk = (p : Int) := V.int.inj (of_decide_eq_true c)
          have hn : isAdd os p i = true := by unfold isAdd; rw [g2]; exact decide_eq_true ek
          refine ⟨_, rfl, _, hB2, szL' (by rw [List.length_map]; omega), sm_new s2 nB, ?_⟩
          rw [addsN_yes hn]
          exact at_app
        · have hn : isAdd os p i = false := by unfold isAdd; rw [g2]; exact decide_eq_false fun z => c (decide_eq_true (by rw [z]))
          exact ⟨s2, by rw [addsN_no hn]; exact hB2⟩
    · obtain ⟨s1, hB⟩ := hp
      rw [List.length_map, h2] at hB
      exact q H1 B s1 nB hB
theorem ok_choices {f : Addr} {fd : FuncData} {k : Nat} (M : Names mg) (D : Def K mg "choices" s_choices ["places"] f fd) : FnOk P w K mg base CX0 (k + 1) f fd ["places"] sp_choices := by
  refine D.F.ok sc_choices (fun vs H Q E h => ?_) (fun cdv A outer s H vs Q E hr h => ?_)
  · obtain ⟨a, ps, rfl, _⟩ := h
    rfl
  · obtain ⟨a, ps, rfl, ha, h8, q⟩ := h
    refine ⟨_, (pss_cons (ps_set (i := 1) sc_choices.nd rfl (Or.inl rfl) (pe_lst (pa_cons (pe_lst pa_nil) pa_nil)))
  (pss_cons (ps_for PassesOwn.never rfl (pi_reversed (by rfl) M.reversed (pa_cons (pv 0) pa_nil)) (pg_name (i := 2) sc_choices.nd rfl (Or.inr rfl))
   (pss_one (ps_set (i := 1) sc_choices.nd rfl (Or.inl rfl) (pe_op op_cat (pe_op op_cat (pe_lst (pa_cons (pe_lst pa_nil) pa_nil)) (pe_lc (own := [("chosen", 3)]) (by rfl) sc_choices.nd (pi_list (pv 1)) (blkOk_by (own := [("chosen", 3)]) (N := N_choices) (sc := defScope s_choices) (by decide +kernel)) (fun _ _ _ _ _ => (pg_name (i := 3) sc_choices.nd rfl (Or.inl rfl))) (fun _ _ _ _ _ => pts_nil) (fun _ _ _ _ _ => (pe_op op_cat (pe_lst (pa_cons (pv 2) pa_nil)) (pv 3))))) (pe_slice sl_list (pv 1) (po_some pe_int) po_none)))))
  (pss_one (ps_ret (pv 1))))), ?_⟩
    refine ⟨Nat.zero_le _, fun z nz => ⟨by show 1 ≤ sizeLine; decide, fun t nt => ?_⟩⟩
    have nzt : z ≠ t := ne_of_none upd_same nt
    have s0 : Same H (upd (upd H z (.lst [])) t (.lst [.ref z])) := (same_upd nz).trans (same_upd nt)
    refine ⟨_, rfl, a, _, rfl, SqL.of (s0 _ _ ha), for_it (walk_rev (xs := ps.map V.int)) (fun i σ H' => ∃ t y2 as, σ = [some (.ref a), some (.ref t), y2, none] ∧ Same H H' ∧ H t = none ∧ H' t = some (.lst (as.map V.ref)) ∧ Al (RowF H H') as (choicesM (ps.drop (ps.length - i)))) ⟨t, none, [z], rfl, s0, (same_upd nz).free nt, upd_same, ?_⟩ (fun i σ H' _ hp => ?_) (fun i x σ H1 H2 hi hp hy => ?_) (fun σ H1 hp => ?_)⟩
    · rw [Nat.sub_zero, List.drop_length]
      exact .one ⟨by rw [upd_ne nzt]; exact upd_same, nz⟩
    · obtain ⟨t, y2, as, _, s1, _⟩ := hp
      exact SqL.of (s1 _ _ ha)
    · obtain ⟨t1, y2, as, rfl, s1, nt1, ht1, al⟩ := hp
      obtain ⟨rfl, hx⟩ := hy
      rw [List.length_map] at hi hx
      obtain ⟨n, hn, rfl⟩ := of_get_ints hx
      have ed : ps.drop (ps.length - (i + 1)) = n :: ps.drop (ps.length - i) := by
        have hlt : ps.length - 1 - i < ps.length := by omega
        rw [show ps.length - (i + 1) = ps.length - 1 - i by omega, List.drop_eq_getElem_cons hlt, show ps.length - 1 - i + 1 = ps.length - i by omega]
        congr 1
        exact (List.getElem?_eq_some_iff.mp hn).2
      generalize hrs : choicesM (ps.drop (ps.length - i)) = rs at al
      have lrs : rs.length ≤ 256 := by
        rw [← hrs]
        exact choicesM_le (by rw [List.length_drop]; omega)
      have lal := al.len
      refine ⟨Nat.zero_le _, fun z nz => ⟨by show 1 ≤ sizeLine; decide, fun e ne => ?_⟩⟩
      have nze : z ≠ e := ne_of_none upd_same ne
      have s2 : Same H2 (upd (upd H2 z (.lst [])) e (.lst [.ref z])) := (same_upd nz).trans (same_upd ne)
      have hz2 : upd (upd H2 z (.lst [])) e (.lst [.ref z]) z = some (LI []) := by rw [upd_ne nze]; exact upd_same
      have he2 : upd (upd H2 z (.lst [])) e (.lst [.ref z]) e = some (.lst [.ref z]) := upd_same
      generalize upd (upd H2 z (.lst [])) e (.lst [.ref z]) = H3 at s2 hz2 he2 ⊢
      refine ⟨_, rfl, t1, rfl, ⟨_, SqL.of (s2 _ _ ht1)⟩, fun C nC => lc_list (xs := as.map V.ref) (fun j H' => Same H3 H' ∧ ∃ cs : List Addr, H' C = some (.lst (cs.map V.ref)) ∧ Al (RowB H H' C) cs ((rs.take j).map (n :: ·))) ⟨same_upd nC, [], upd_same, True.intro⟩ (fun j H' _ hp => SqL.of (hp.1 _ _ (s2 _ _ ht1))) (fun j x H4 hx hp => ?_) (fun H4 hp => ?_)⟩
      · obtain ⟨s4, cs, hC, alc⟩ := hp
        rw [List.getElem?_map] at hx
        cases hu : as[j]? with
        | none => rw [hu] at hx; cases hx
        | some u =>
          rw [hu] at hx
          cases Option.some.inj hx
          obtain ⟨r, hr, hur⟩ := al.get hu
          have lr : r.length ≤ 8 := by
            have : ∀ (ps : List Int) r, r ∈ choicesM ps → r.length ≤ ps.length := by
              intro ps
              induction ps with
              | nil => intro r h; rw [List.mem_singleton.mp h]; exact Nat.le_refl _
              | cons p ps ih =>
                intro r h
                rcases List.mem_append.mp h with h | h
                · rcases List.mem_append.mp h with h | h
                  · rw [List.mem_singleton.mp h]; exact Nat.zero_le _
                  · obtain ⟨r', h', rfl⟩ := List.mem_map.mp h
                    have := ih r' h'
                    rw [List.length_cons, List.length_cons]
                    omega
                · have := ih r (List.mem_of_mem_tail h)
                  rw [List.length_cons]
                  omega
            have := this (ps.drop (ps.length - i)) r (by rw [hrs]; exact List.mem_of_getElem? hr)
            rw [List.length_drop] at this
            omega
          refine ⟨rfl, _, rfl, by show 1 ≤ sizeLine; decide, fun g ng => ?_⟩
          have hu4 : H4 u = some (LI r) := s4 _ _ (s2 _ _ hur.1)
          have ngu : u ≠ g := ne_of_none hu4 ng
          refine ⟨_, rfl, g, u, _, _, rfl, rfl, upd_same, (by rw [upd_ne ngu]; exact hu4), szL (by rw [List.length_map]; show 1 + r.length ≤ _; omega), fun v nv => ?_⟩
          have s5 : Same H4 (upd (upd H4 g (.lst [.int n])) v (.lst ([.int n] ++ r.map V.int))) := (same_upd ng).trans (same_upd nv)
          have lc := alc.len
          rw [List.length_map, List.length_take] at lc
          refine ⟨_, s5 _ _ hC, szL' (by rw [List.length_map]; omega), sm_new (s4.trans s5) nC, cs ++ [v], ?_, ?_⟩
          · rw [upd_same, List.map_append]
            rfl
          · have nvC : v ≠ C := fun z => by
              rw [z] at nv
              rw [(same_upd ng) _ _ hC] at nv
              cases nv
            rw [take_succ_at hr, List.map_append]
            exact Al.app (alc.imp fun a x h => h.keep ((SameBut.of s5).trans .upd)) (.one ⟨by rw [upd_ne nvC, upd_same]; rfl, ((s1.trans s2).trans s4).free ((same_upd ng).free nv), nvC⟩)
      · obtain ⟨s4, cs, hC, alc⟩ := hp
        rw [List.length_map, lal, List.take_length] at alc
        have lc := alc.len
        rw [List.length_map] at lc
        refine ⟨e, C, _, _, rfl, rfl, s4 _ _ he2, hC, szL (by rw [List.length_map]; show 1 + _ ≤ _; omega), fun g ng => ?_⟩
        refine ⟨_, rfl, 1, rfl, t1, _, rfl, SqL.of ((same_upd ng) _ _ (s4 _ _ (s2 _ _ ht1))), fun sl nsl => ?_⟩
        have s5 : Same H4 (upd (upd H4 g (.lst ([.ref z] ++ cs.map V.ref))) sl (.lst (cutV (as.map V.ref) (some 1) none))) := (same_upd ng).trans (same_upd nsl)
        have hg5 : upd (upd H4 g (.lst ([.ref z] ++ cs.map V.ref))) sl (.lst (cutV (as.map V.ref) (some 1) none)) g = some (.lst ([.ref z] ++ cs.map V.ref)) := (same_upd nsl) _ _ upd_same
        refine ⟨g, sl, _, _, rfl, rfl, hg5, upd_same, szL (by rw [cut1, List.length_drop, List.length_map, List.length_append, List.length_map]; show 1 + _ + _ ≤ _; omega), fun t' nt' => ?_⟩
        have s6 := s5.trans (same_upd (o := .lst ([.ref z] ++ cs.map V.ref ++ cutV (as.map V.ref) (some 1) none)) nt')
        have s46 := (s2.trans s4).trans s6
        refine ⟨t', _, ([z] ++ cs) ++ as.drop 1, rfl, s1.trans s46, ((s1.trans (s2.trans s4)).trans s5).free nt', ?_, ?_⟩
        · rw [upd_same, cut1, List.map_append, List.map_append, List.map_drop]
          rfl
        · rw [ed]
          show Al _ _ (([[]] ++ (choicesM (ps.drop (ps.length - i))).map (n :: ·)) ++ (choicesM (ps.drop (ps.length - i))).tail)
          rw [hrs]
          exact Al.app (Al.app (.one ⟨s6 _ _ (s4 _ _ hz2), s1.free nz⟩) (alc.imp fun a x h => h.toF.keep s6)) ((al.drop1).imp fun a x h => h.keep s46)
    · obtain ⟨t1, y2, as, rfl, s1, nt1, ht1, al⟩ := hp
      rw [List.length_map, Nat.sub_self, List.drop_zero] at al
      exact ⟨_, rfl, q H1 t1 as s1 nt1 ht1 al⟩
end
section
variable {P : Program} {w : World} {K : PySem.W.Frag} {mg : Str → Option Value} {base : Heap} {T : List Addr}
theorem ok_lines_at {f f1 f2 : Addr} {fd fd1 fd2 : FuncData} {k : Nat} (M : Names mg) (D : Def K mg "lines_at" s_lines_at ["shop", "place"] f fd) (D_adds_to : Def K mg "adds_to" s_adds_to ["shop", "place"] f1 fd1) (D_choices : Def K mg "choices" s_choices ["places"] f2 fd2) : FnOk P w K mg base CX0 (k + 2) f fd ["shop", "place"] sp_lines_at := by
  have G_adds_to : FnOk P w K mg base CX0 (k + 1) f1 fd1 ["shop", "place"] sp_adds_to := ok_adds_to M D_adds_to
  have G_choices : FnOk P w K mg base CX0 (k + 1) f2 fd2 ["places"] sp_choices := ok_choices M D_choices
  obtain ⟨t12, m_MOST_PIECES⟩ := M.c_MOST_PIECES
  refine D.F.ok sc_lines_at (fun vs H Q E h => ?_) (fun cdv A outer s H vs Q E hr h => ?_)
  · obtain ⟨a, os, p, rfl, _⟩ := h
    rfl
  · obtain ⟨a, os, p, rfl, hS, h8, hp, q⟩ := h
    obtain ⟨vs, h1, h2, h3⟩ := id hS
    obtain ⟨v, o, g1, g2, g3⟩ := ShopAt.get (H := H) (a := a) h2 hp
    have ho := h3 p v o g1 g2
    refine ⟨_, (pss_cons (ps_set (i := 2) sc_lines_at.nd rfl (Or.inl rfl) (pe_ix ix_tup (pe_ix ix_list (pv 0) (pv 1) (fun _ _ => rfl)) pe_int (fun _ _ => rfl)))
  (pss_cons (ps_if (pt_cmpR op_eq (pv 2) pe_str (nomark _))
   (pss_one (ps_ret (pe_lc (own := [("adds", 3)]) (by rfl) sc_lines_at.nd (pi_list (pe_call G_choices hr (by rfl) D_choices.g D_choices.F.kp D_choices.b .nil pass0 (pa_cons (pe_call G_adds_to hr (by rfl) D_adds_to.g D_adds_to.F.kp D_adds_to.b .nil pass0 (pa_cons (pv 0) (pa_cons (pv 1) pa_nil))) pa_nil))) (blkOk_by (own := [("adds", 3)]) (N := N_lines_at) (sc := defScope s_lines_at) (by decide +kernel)) (fun _ _ _ _ _ => (pg_name (i := 3) sc_lines_at.nd rfl (Or.inl rfl))) (fun _ _ _ _ _ => pts_nil) (fun _ _ _ _ _ => (pe_tup (pa_cons (pv 1) (pa_cons pe_int (pa_cons (pv 3) pa_nil))))))))
   pss_nil)
  (pss_cons (ps_if (pt_cmpR op_eq (pv 2) pe_str (nomark _))
   (pss_one (ps_ret (pe_lc (own := [("count", 4)]) (by rfl) sc_lines_at.nd (pi_range2 (by rfl) M.range (pa_cons pe_int (pa_cons (pe_op op_add (pe_glob (v := .int 12) (by rfl) m_MOST_PIECES ⟨_, rfl⟩) pe_int) pa_nil))) (blkOk_by (own := [("count", 4)]) (N := N_lines_at) (sc := defScope s_lines_at) (by decide +kernel)) (fun _ _ _ _ _ => (pg_name (i := 4) sc_lines_at.nd rfl (Or.inl rfl))) (fun _ _ _ _ _ => pts_nil) (fun _ _ _ _ _ => (pe_tup (pa_cons (pv 1) (pa_cons (pv 4) (pa_cons (pe_lst pa_nil) pa_nil))))))))
   pss_nil)
  (pss_one (ps_ret (pe_lst pa_nil)))))), ?_⟩
    cases o with
    | pack c pr =>
      obtain ⟨b, hb, _⟩ := ho
      have em : linesAtM os p = (choicesM (addsM os p)).map fun c => ⟨p, 1, c⟩ := by unfold linesAtM; rw [g2]
      refine ⟨_, rfl, _, rfl, a, _, _, _, rfl, rfl, SqL.of h1, atI_nat g3, v, _, _, _, rfl, rfl, SqT.of hb, atI_nat (j := 0) rfl, ?_⟩
      refine ⟨_, rfl, rfl, true, rfl, ?_⟩
      refine ⟨_, rfl, _, rfl, a, os, p, rfl, hS, h8, fun H1 ad s1 nad had => ?_⟩
      have la : (addsM os p).length ≤ 8 := Nat.le_trans (addsN_len _ _ _) h8
      refine ⟨ad, addsM os p, rfl, had, la, fun H2 ch as s2 nch hch al => ?_⟩
      have lal := al.len
      have lch := choicesM_le la
      refine ⟨ch, rfl, ⟨_, SqL.of hch⟩, fun B nB => lc_list (xs := as.map V.ref) (fun j H' => Same H2 H' ∧ ∃ ls : List Addr, H' B = some (.lst (ls.map V.ref)) ∧ Al (LineB H H' B) ls (((choicesM (addsM os p)).take j).map fun c => ⟨p, 1, c⟩)) ⟨same_upd nB, [], upd_same, True.intro⟩ (fun j H' _ hp => SqL.of (hp.1 _ _ hch)) (fun j x H3 hx hp => ?_) (fun H3 hp => ?_)⟩
      · obtain ⟨s3, ls, hB, all⟩ := hp
        rw [List.getElem?_map] at hx
        cases hu : as[j]? with
        | none => rw [hu] at hx; cases hx
        | some u =>
          rw [hu] at hx
          cases Option.some.inj hx
          obtain ⟨r, hr, hur, nu⟩ := al.get hu
          have hu3 : H3 u = some (LI r) := s3 _ _ hur
          have nuB : u ≠ B := ne_of_none hur nB
          refine ⟨rfl, _, rfl, _, rfl, by show 3 ≤ sizeLine; decide, fun t nt => ?_⟩
          have ntB : t ≠ B := fun z => by
            rw [z, hB] at nt
            cases nt
          have ntu : u ≠ t := ne_of_none hu3 nt
          have lls := all.len
          rw [List.length_map, List.length_take] at lls
          refine ⟨_, (same_upd nt) _ _ hB, szL' (by rw [List.length_map]; omega), sm_new (s3.trans (same_upd nt)) nB, ls ++ [t], ?_, ?_⟩
          · rw [upd_same, List.map_append]
            rfl
          · rw [take_succ_at hr, List.map_append]
            refine Al.app (all.imp fun l x h => h.keep ((SameBut.of (same_upd nt)).trans .upd)) (.one ⟨u, ?_, ?_, (((s1.trans s2).trans s3).free nt), s1.free nu, ntB, nuB⟩)
            · rw [upd_ne ntB]
              exact upd_same
            · rw [upd_ne nuB]
              exact (same_upd nt) _ _ hu3
      · obtain ⟨s3, ls, hB, all⟩ := hp
        rw [List.length_map, lal, List.take_length] at all
        refine q H3 B ((s1.trans s2).trans s3) ((s1.trans s2).free nB) ⟨ls, hB, ?_⟩
        rw [em]
        exact all.imp fun l x h => h.toF
    | many c ts =>
      obtain ⟨b, t', hb, _⟩ := ho
      have em : linesAtM os p = (List.range 12).map fun i => ⟨p, 1 + (i : Nat), []⟩ := by unfold linesAtM; rw [g2]
      refine ⟨_, rfl, _, rfl, a, _, _, _, rfl, rfl, SqL.of h1, atI_nat g3, v, _, _, _, rfl, rfl, SqT.of hb, atI_nat (j := 0) rfl, ?_⟩
      refine ⟨_, rfl, rfl, false, rfl, ?_⟩
      refine ⟨_, rfl, rfl, true, rfl, ?_⟩
      refine ⟨_, _, rfl, rfl, 1, _, rfl, ⟨by decide, by decide, by decide, by decide⟩, fun B nB => lc_range (lo := 1) (n := 12) (fun j H' => Same H H' ∧ ∃ ls : List Addr, H' B = some (.lst (ls.map V.ref)) ∧ Al (LineB H H' B) ls ((List.range j).map fun i => ⟨p, 1 + (i : Nat), []⟩)) ⟨same_upd nB, [], upd_same, True.intro⟩ (fun j H3 hj hp => ?_) (fun H3 hp => ?_)⟩
      · obtain ⟨s3, ls, hB, all⟩ := hp
        refine ⟨rfl, _, rfl, _, rfl, Nat.zero_le _, fun u nu => ⟨by show 3 ≤ sizeLine; decide, fun t nt => ?_⟩⟩
        have nuB : u ≠ B := fun z => by
          rw [z, hB] at nu
          cases nu
        have hB1 : upd H3 u (.lst []) B = some (.lst (ls.map V.ref)) := (same_upd nu) _ _ hB
        have ntB : t ≠ B := fun z => by
          rw [z, hB1] at nt
          cases nt
        have ntu : u ≠ t := ne_of_none upd_same nt
        have s4 : Same H3 (upd (upd H3 u (.lst [])) t (.tup [.int p, .int (1 + (j : Nat)), .ref u])) := (same_upd nu).trans (same_upd nt)
        have lls := all.len
        rw [List.length_map, List.length_range] at lls
        refine ⟨_, s4 _ _ hB, szL' (by rw [List.length_map]; omega), sm_new (s3.trans s4) nB, ls ++ [t], ?_, ?_⟩
        · rw [upd_same, List.map_append]
          rfl
        · rw [List.range_succ, List.map_append]
          refine Al.app (all.imp fun l x h => h.keep ((SameBut.of s4).trans .upd)) (.one ⟨u, ?_, ?_, s3.free ((same_upd nu).free nt), s3.free nu, ntB, nuB⟩)
          · rw [upd_ne ntB]
            exact upd_same
          · rw [upd_ne nuB, upd_ne ntu]
            exact upd_same
      · obtain ⟨s3, ls, hB, all⟩ := hp
        refine q H3 B s3 nB ⟨ls, hB, ?_⟩
        rw [em]
        exact all.imp fun l x h => h.toF
    | add c pr kk =>
      obtain ⟨b, hb, _⟩ := ho
      have em : linesAtM os p = [] := by unfold linesAtM; rw [g2]
      refine ⟨_, rfl, _, rfl, a, _, _, _, rfl, rfl, SqL.of h1, atI_nat g3, v, _, _, _, rfl, rfl, SqT.of hb, atI_nat (j := 0) rfl, ?_⟩
      refine ⟨_, rfl, rfl, false, rfl, ?_⟩
      refine ⟨_, rfl, rfl, false, rfl, ?_⟩
      refine ⟨Nat.zero_le _, fun B nB => q _ B (same_upd nB) nB ⟨[], upd_same, ?_⟩⟩
      rw [em]
      exact True.intro
theorem ok_lines {f f1 f2 f3 f4 f5 f6 f7 c t : Addr} {fd fd1 fd2 fd3 fd4 fd5 fd6 fd7 : FuncData} {k : Nat} (M : Names mg) (D : Def K mg "lines" s_lines ["shop"] f fd) (D_look : Def K mg "look" s_look ["shop"] f1 fd1) (D_can_stand : Def K mg "can_stand" s_can_stand ["shop", "at"] f2 fd2) (D_names_pack : Def K mg "names_pack" s_names_pack ["shop", "at"] f3 fd3) (D_good_tiers : Def K mg "good_tiers" s_good_tiers ["tiers"] f4 fd4)
    (hc : fd4.code = .ref c) (TB : GxR.TabB base mg c t) (ht : t ∈ T) (D_lines_at : Def K mg "lines_at" s_lines_at ["shop", "place"] f5 fd5) (D_adds_to : Def K mg "adds_to" s_adds_to ["shop", "place"] f6 fd6) (D_choices : Def K mg "choices" s_choices ["places"] f7 fd7) : FnOk P w K mg base CX0 (k + 4) f fd ["shop"] (sp_lines T) := by
  have G_look : FnOk P w K mg base CX0 (k + 3) f1 fd1 ["shop"] (sp_look T) := ok_look M D_look D_can_stand D_names_pack D_good_tiers hc TB ht
  have G_lines_at : FnOk P w K mg base CX0 (k + 3) f5 fd5 ["shop", "place"] sp_lines_at := ok_lines_at M D_lines_at D_adds_to D_choices
  refine D.F.ok sc_lines (fun vs H Q E h => ?_) (fun cdv A outer s H vs Q E hr h => ?_)
  · obtain ⟨a, os, rfl, _⟩ := h
    rfl
  · obtain ⟨a, os, rfl, hS, gd, hT, q⟩ := h
    refine ⟨_, (pss_cons (ps_expr (pe_call G_look hr (by rfl) D_look.g D_look.F.kp D_look.b .nil pass0 (pa_cons (pv 0) pa_nil)))
  (pss_one (ps_ret (pe_lc2 (own := [("place", 1), ("line", 2)]) (vs1 := [2]) (by rfl) sc_lines.nd (pi_range1 (by rfl) M.range (pa_cons (pe_callB call_len_seq (by rfl) M.len (by decide +kernel) (pa_cons (pv 0) pa_nil)) pa_nil)) (blkOk_by (own := [("place", 1), ("line", 2)]) (N := N_lines) (sc := defScope s_lines) (by decide +kernel)) (by decide) (fun _ _ _ _ _ => (pg_name (i := 1) sc_lines.nd rfl (Or.inl rfl))) (fun _ _ _ _ _ => pts_nil) (fun _ _ _ _ _ => (pi_listK (K := K) rfl (pe_call G_lines_at hr (by rfl) D_lines_at.g D_lines_at.F.kp D_lines_at.b .nil pass0 (pa_cons (pv 0) (pa_cons (pv 1) pa_nil))))) (fun _ _ _ _ _ => (pg_name (i := 2) sc_lines.nd rfl (Or.inl rfl))) (fun _ _ _ _ _ => pts_nil) (fun _ _ _ _ _ => (pv 2)))))), ?_⟩
    refine ⟨_, rfl, a, os, rfl, hS, gd, hT, fun H1 e1 => ?_⟩
    have hS1 := hS.ext e1
    obtain ⟨vs, h1, h2, h3⟩ := id hS1
    have h8 := gd.1
    refine ⟨_, rfl, a, _, rfl, .inl (SqL.of h1), _, rfl, by omega, by rw [List.length_map]; omega, fun B nB => ?_⟩
    have nBH : H B = none := e1.free _ nB
    refine ⟨fun i m H' => m = os.length - i ∧ i ≤ os.length ∧ Same H1 H' ∧ ∃ ls : List Addr, H' B = some (.lst (ls.map V.ref)) ∧ Al (LineB H H' B) ls ((List.range i).flatMap (linesAtM os)), ⟨_, rfl, Nat.zero_le _, same_upd nB, [], upd_same, True.intro⟩, fun i m H2 hW => ?_⟩
    obtain ⟨rfl, hi, s2, ls, hB, all⟩ := hW
    by_cases hil : i < os.length
    · refine .inr ⟨by show i < Int.toNat _; rw [Int.toNat_natCast, List.length_map]; omega, fun H' => Same H1 H' ∧ ∃ ls : List Addr, H' B = some (.lst (ls.map V.ref)) ∧ Al (LineB H H' B) ls ((List.range (i + 1)).flatMap (linesAtM os)), fun H' hN => ⟨_, by omega, rfl, hil, hN⟩, fun x H3 hy => ?_⟩
      obtain ⟨rfl, rfl⟩ := hy
      refine ⟨rfl, _, rfl, _, rfl, a, os, i, by show [V.ref a, V.int (0 + (i : Int))] = _; rw [Int.zero_add], hS1.same s2, h8, hil, fun H4 L s4 nL hL => ?_⟩
      obtain ⟨as, hLl, alL⟩ := hL
      have lal := alL.len
      have tot := linesN_len h8 i
      have one := linesAtM_len h8 i
      have hB4 := s4 _ _ hB
      have nLB : L ≠ B := fun z => by
        rw [z, hB] at nL
        cases nL
      have fr : ∀ b, H3 b = none → H b = none := fun b z => e1.free _ (s2.free z)
      have alB : Al (LineB H H4 B) as (linesAtM os i) := alL.imp fun l x h => h.toB fr (by rw [hB]; exact fun z => nomatch z)
      refine ⟨L, rfl, ⟨_, SqL.of hLl⟩, fun j m' H' => m' = as.length - j ∧ j ≤ as.length ∧ Same H1 H' ∧ H' L = some (.lst (as.map V.ref)) ∧ Al (LineB H H' B) as (linesAtM os i) ∧ ∃ ls : List Addr, H' B = some (.lst (ls.map V.ref)) ∧ Al (LineB H H' B) ls ((List.range i).flatMap (linesAtM os) ++ (linesAtM os i).take j), ⟨_, rfl, Nat.zero_le _, s2.trans s4, hLl, alB, ls, hB4, ?_⟩, fun j m' H5 hW1 => ?_⟩
      · rw [List.take_zero, List.append_nil]
        exact all.imp fun l x h => h.keep (.of s4)
      · obtain ⟨rfl, hj, s5, hL5, al5, ls5, hB5, all5⟩ := hW1
        by_cases hjl : j < as.length
        · obtain ⟨l, hl⟩ : ∃ l, as[j]? = some l := ⟨_, List.getElem?_eq_getElem hjl⟩
          have gl : (as.map V.ref)[j]? = some (.ref l) := by rw [List.getElem?_map, hl]; rfl
          obtain ⟨ln, hln, hlat⟩ := al5.get hl
          refine .inr ⟨⟨_, _, SqL.of hL5, gl⟩, fun H' => Same H1 H' ∧ H' L = some (.lst (as.map V.ref)) ∧ Al (LineB H H' B) as (linesAtM os i) ∧ ∃ ls : List Addr, H' B = some (.lst (ls.map V.ref)) ∧ Al (LineB H H' B) ls ((List.range i).flatMap (linesAtM os) ++ (linesAtM os i).take (j + 1)), fun H' hN => ⟨_, by omega, rfl, hjl, hN⟩, fun x H6 hy => ?_⟩
          obtain ⟨rfl, fy⟩ := hy
          have ex : x = .ref l := Option.some.inj ((fy _ (SqL.of hL5)).symm.trans gl)
          subst ex
          have l5 := all5.len
          rw [List.length_append, List.length_take] at l5
          refine ⟨rfl, _, rfl, _, hB5, szL' (by rw [List.length_map]; omega), sm_new s5 nB, ?_, ?_, ls5 ++ [l], ?_, ?_⟩
          · rw [upd_ne nLB]
            exact hL5
          · exact al5.imp fun l x h => h.keep .upd
          · rw [upd_same, List.map_append]
            rfl
          · rw [take_succ_at hln, ← List.append_assoc]
            exact Al.app (all5.imp fun l x h => h.keep .upd) (.one (hlat.keep .upd))
        · refine .inl ⟨⟨_, SqL.of hL5, by rw [List.length_map]; omega⟩, s5, ls5, hB5, ?_⟩
          rw [List.take_of_length_le (by omega)] at all5
          rw [List.range_succ, List.flatMap_append, List.flatMap_singleton]
          exact all5
    · have ei : i = os.length := by omega
      refine .inl ⟨by show Int.toNat _ ≤ i; rw [Int.toNat_natCast, List.length_map]; omega, ?_⟩
      rw [ei] at all
      exact q H2 B (e1.trans (.same s2 e1.t1)) nBH ⟨ls, hB, all.imp fun l x h => h.toF⟩
end
/-! ### sum(number for x in list): a generator expression over a list -/
def tSumN (K : PySem.W.Frag) (P : Addr) (R : L2.St → Hp → List V → (Nat → Int) → Prop) (te : TE) : TE := fun σ H Q => te σ H fun v H1 => ∃ (a : Addr) (xs : List V) (val : Nat → Int), v = .ref a ∧ SqL K H1 a xs ∧ GxR.TabG H1 P ∧ R σ H1 xs val ∧
  (∀ j, j < xs.length → InLong (val j) ∧ InLong (preSum val (j + 1))) ∧ ∀ H2, GxR.Tabbed P H1 H2 → Q (.int (preSum val xs.length)) H2
def EltN (X : Cx) (P : Addr) (scope : Scope) (x : Str) (elt : Expr) (R : L2.St → Hp → List V → (Nat → Int) → Prop) : Prop :=
  ∀ (pins : List (Addr × Obj)) (σ : L2.St) (H1 : Hp) (s1 : Shared) (xs : List V) (val : Nat → Int), Inv X pins σ H1 s1 → GxR.TabG H1 P → R σ H1 xs val →
    ∀ (cenv : Env) (A' : Around) (E' : Value → Shared → Prop) (i : Nat) (v : V) (va : Value) (s₂ : Shared) (m₂ : Str → Option Value), cenv.scope = scope → cenv.cells = cloFrom X.env.cells scope.names [] → cenv.globals = mainGlobals → cenv.builtins = builtinsNs →
      A'.handled = none → xs[i]? = some v → RelV v va → s₂.heap.Ns cenv.locals m₂ → m₂ x = some va → (∀ b o, b ≠ P → s1.heap.get? b = some o → s₂.heap.get? b = some o) →
      wpAny (model X.prog X.w) A' (eval elt cenv) (fun y s₃ => (∃ t, y = .int (val i) t) ∧ Keeps s₂ s₃) E' s₂
section
variable {X : Cx}
theorem pe_sumList {c P : Addr} {elt e : Expr} {x : Str} {px p pos gpos : Pos} {scope : Scope} {te : TE} {k : Nat} {R : L2.St → Hp → List V → (Nat → Int) → Prop}
    (hr : Room k X.A) (hg : Gl X "sum") (hm : X.mg "sum" = none) (hb : bootBuiltins "sum" = some (.builtin "sum")) (TB : GxR.TabB X.base X.mg c P) (hcode : X.env.code = .ref c) (S : GenS1 X.env.scope scope x) (hi : PE X e te)
    (hel : EltN X P scope x elt R)
    (hs : ∀ v, genFold e X.env v = pure v := by intro _; rfl)
    (he : starEach [.GeneratorExp elt [⟨.Name x px, e, [], 0⟩] scope gpos] X.env = (false, eval (.GeneratorExp elt [⟨.Name x px, e, [], 0⟩] scope gpos) X.env) :: starEach [] X.env := by rfl) :
    PE X (.Call (.Name "sum" p) [.GeneratorExp elt [⟨.Name x px, e, [], 0⟩] scope gpos] [] pos) (tSumN X.K P R te) := by
  refine ⟨fun pins s σ H Q I h => call_gen hg hm hb he I (gen_ones hr TB hcode S hs I (thn (hi.run pins s σ H _ I h) fun u0 s1 r => ?_))⟩
  obtain ⟨_, H1, J, isRef, a, xs, val, rfl, sq, tab, hR, fit, q⟩ := r
  cases isRef
  obtain ⟨its, rv, at_, _⟩ := J.list sq
  have many : its.toArray.size = xs.length := List.size_toArray.trans rv.length.symm
  have la : a < s1.heap.objs.size := at_.lt
  obtain ⟨oa, ea, ca, _⟩ := id at_.isList
  have aP : a ≠ P := tab_ne J tab ea (.inl fun z => by rw [ca] at z; cases z)
  have lP : P < s1.heap.objs.size := tab.elim fun _ x => Heap.lt_size (show s1.heap.get? P = _ from J.hok P _ x.1)
  refine wpAny_pyIter_list at_.isList ?_
  refine ⟨_, _, _, _, _, _, fun i y => ∃ t, y = .int (val i) t, pins, σ, H1, s1, rfl, ⟨J, tab, ⟨_, s1.toks, rfl⟩, fun b o e => Heap.get?_push_of_some _ e, by rw [Heap.size_push]; exact Nat.le_succ _, fun b hb => ?_, fun b hb => ?_⟩,
    fun A' calm => Walks.list calm s1.heap.objs.size a (Nat.ne_of_lt la) its.toArray, ⟨⟨_, Heap.get?_push_size _ rfl, rfl, rfl⟩, at_.isList.push _⟩, ?_, ?_⟩
  · rw [Heap.size_push]
    simp only [List.mem_cons, List.not_mem_nil, or_false] at hb
    rcases hb with rfl | rfl
    · exact ⟨Nat.lt_succ_self _, Nat.ne_of_gt lP⟩
    · exact ⟨Nat.lt_succ_of_lt la, aP⟩
  · exact Nat.le_of_eq (List.mem_singleton.mp hb).symm
  · intro cenv A' E' i va u m T hPt ns ma
    have there : its[i]? = some va := by simpa using hPt
    obtain ⟨v, hv⟩ : ∃ v, xs[i]? = some v := ⟨_, List.getElem?_eq_getElem (rv.length.symm ▸ (List.getElem?_eq_some_iff.mp there).1)⟩
    obtain ⟨w, hw, rw_⟩ := rv.get hv
    cases there.symm.trans hw
    exact hel pins σ H1 s1 xs val J tab hR cenv A' E' i v _ u m T.own T.cells T.glob T.blt T.calm hv rw_ ns ma T.still
  · rintro g s5 ⟨fp, wr, G, F', St, W, st, low, say, held⟩
    refine call_sum_walkS (W.self 0 _ _ _ st ⟨g, fp, wr, G, _, F', St, val, rfl, W, st, low, say, fun j lj => fit j (many ▸ lj), fun s' t' mv => ?_⟩)
    obtain ⟨H2, grown, J2⟩ := held s' mv
    exact ⟨.int _, H2, J2, ⟨t', rfl⟩, many ▸ q H2 grown⟩
end
/-! ### lines: what they hold and cost, as lists -/
def togM (a b : List Int) : List Int := List.zipWith (· + ·) a b
theorem togM_get {a b : List Int} {i : Nat} {x y : Int} (h : a[i]? = some x) (h2 : b[i]? = some y) : (togM a b)[i]? = some (x + y) := by
  unfold togM
  rw [List.getElem?_zipWith, h, h2]
theorem togM_len (a b : List Int) : (togM a b).length = min a.length b.length := by
  unfold togM
  rw [List.length_zipWith]
def contAt (os : List Ofr) (x : Int) : List Int := match os[x.toNat]? with
  | some o => o.cont
  | none => []
def contM (os : List Ofr) (l : Ln) : List Int := l.as.foldl (fun acc x => togM acc (contAt os x)) ((contAt os l.p).map (l.c * ·))
def pieceL (ts : List (Int × Int)) (c : Int) : List Int := (ts.filter fun t => decide (t.1 ≤ c)).map (·.2)
def pieceM (ts : List (Int × Int)) (c : Int) : Int := (pieceL ts c).getLastD 0
def addPr (os : List Ofr) (x : Int) : Int := match os[x.toNat]? with
  | some (.add _ p _) => p
  | some (.pack _ p) => p
  | _ => 0
def priceM (os : List Ofr) (l : Ln) : Int := match os[l.p.toNat]? with
  | some (.many _ ts) => l.c * pieceM ts l.c
  | some (.pack _ p) => p + (l.as.map (addPr os)).sum
  | _ => 0
/-- l is a line of os -/
def LineOk (os : List Ofr) (l : Ln) : Prop := ∃ p : Nat, l.p = (p : Int) ∧ ((∃ c ts, os[p]? = some (.many c ts) ∧ GoodT ts ∧ 1 ≤ l.c ∧ l.c ≤ 12 ∧ l.as = []) ∨
  (∃ c pr, os[p]? = some (.pack c pr) ∧ l.c = 1 ∧ l.as.length ≤ 8 ∧ ∀ x ∈ l.as, ∃ j : Nat, x = (j : Int) ∧ ∃ c' pr' k, os[j]? = some (.add c' pr' k)))
/-- contents are short, prices of adds within bounds -/
def Fit (os : List Ofr) : Prop := ∀ o ∈ os, o.cont.length ≤ 1000 ∧ ∀ c p k, o = .add c p k → -10000000000000000 ≤ p ∧ p ≤ 10000000000000000
def LineAt (H : Hp) (a : Addr) (l : Ln) : Prop := ∃ b, H a = some (.tup [.int l.p, .int l.c, .ref b]) ∧ H b = some (LI l.as)
theorem LineF.at {H0 H : Hp} {a : Addr} {l : Ln} (h : LineF H0 H a l) : LineAt H a l := by
  obtain ⟨b, h1, h2, _⟩ := h
  exact ⟨b, h1, h2⟩
theorem LineAt.ext {T : List Addr} {H H' : Hp} {a : Addr} {l : Ln} (e : Ext T H H') (h : LineAt H a l) : LineAt H' a l := by
  obtain ⟨b, h1, h2⟩ := h
  exact ⟨b, e.tup h1, e.lst h2⟩
theorem contAt_get {os : List Ofr} {j : Nat} {o : Ofr} (h : os[j]? = some o) : contAt os (j : Int) = o.cont := by
  unfold contAt
  rw [Int.toNat_natCast, h]
theorem pieceL_take {ts : List (Int × Int)} {c : Int} {i : Nat} {t : Int × Int} (h : ts[i]? = some t) : pieceL (ts.take (i + 1)) c = if t.1 ≤ c then pieceL (ts.take i) c ++ [t.2] else pieceL (ts.take i) c := by
  unfold pieceL
  rw [take_succ_at h, List.filter_append, List.map_append]
  by_cases z : t.1 ≤ c
  · rw [if_pos z]
    simp [z]
  · rw [if_neg z]
    simp [z]
/-! ### together, content_of, piece_price -/
abbrev s_together : Stmt := topS 14
abbrev N_together : List Str := ["content", "other", "number", "more"]
theorem sc_together : FnScope N_together ["content", "other"] (defScope s_together) := ⟨rfl, rfl, rfl, by decide +kernel, rfl, by decide +kernel, by decide +kernel⟩

abbrev s_content_of : Stmt := topS 15
abbrev N_content_of : List Str := ["shop", "line", "content", "add", "adds", "place", "count", "number"]
theorem sc_content_of : FnScope N_content_of ["shop", "line"] (defScope s_content_of) := ⟨rfl, rfl, rfl, by decide +kernel, rfl, by decide +kernel, by decide +kernel⟩

abbrev s_piece_price : Stmt := topS 16
abbrev N_piece_price : List Str := ["tiers", "count", "begin", "price"]
theorem sc_piece_price : FnScope N_piece_price ["tiers", "count"] (defScope s_piece_price) := ⟨rfl, rfl, rfl, by decide +kernel, rfl, by decide +kernel, by decide +kernel⟩

abbrev s_price_of : Stmt := topS 17
abbrev N_price_of : List Str := ["shop", "line", "offer", "place", "count", "adds", "add"]
theorem sc_price_of : FnScope N_price_of ["shop", "line"] (defScope s_price_of) := ⟨rfl, rfl, rfl, by decide +kernel, rfl, by decide +kernel, by decide +kernel⟩

def sp_together : Sp := fun vs H Q _ => ∃ (a b : Addr) (xs ys : List Int), vs = [.ref a, .ref b] ∧ H a = some (LI xs) ∧ H b = some (LI ys) ∧ xs.length ≤ 1000 ∧ ∀ H' q, Same H H' → H q = none → H' q = some (LI (togM xs ys)) → Q (.ref q) H'
def sp_content_of : Sp := fun vs H Q _ => ∃ (a la : Addr) (os : List Ofr) (l : Ln), vs = [.ref a, .ref la] ∧ ShopAt H a os ∧ LineAt H la l ∧ LineOk os l ∧ Fit os ∧ ∀ H' q, Same H H' → H q = none → H' q = some (LI (contM os l)) → Q (.ref q) H'
def sp_piece_price : Sp := fun vs H Q _ => ∃ (a : Addr) (ts : List (Int × Int)) (c : Int), vs = [.ref a, .int c] ∧ TiersAt H a ts ∧ GoodT ts ∧ 1 ≤ c ∧ ∀ H', Same H H' → Q (.int (pieceM ts c)) H'
def sp_price_of (T : List Addr) : Sp := fun vs H Q _ => ∃ (a la : Addr) (os : List Ofr) (l : Ln), vs = [.ref a, .ref la] ∧ ShopAt H a os ∧ LineAt H la l ∧ LineOk os l ∧ Fit os ∧ Tb T H ∧ ∀ H', Ext T H H' → Q (.int (priceM os l)) H'
section
variable {P : Program} {w : World} {K : PySem.W.Frag} {mg : Str → Option Value} {base : Heap} {T : List Addr}
theorem ok_together {f : Addr} {fd : FuncData} {k : Nat} (M : Names mg) (D : Def K mg "together" s_together ["content", "other"] f fd) : FnOk P w K mg base CX0 (k + 1) f fd ["content", "other"] sp_together := by
  refine D.F.ok sc_together (fun vs H Q E h => ?_) (fun cdv A outer s H vs Q E hr h => ?_)
  · obtain ⟨a, b, xs, ys, rfl, _⟩ := h
    rfl
  · obtain ⟨a, b, xs, ys, rfl, ha, hb, hl, q⟩ := h
    refine ⟨_, (pss_one (ps_ret (pe_lc (own := [("number", 2), ("more", 3)]) (by rfl) sc_together.nd (pi_zip (by rfl) M.zip (pa_cons (pv 0) (pa_cons (pv 1) pa_nil))) (blkOk_by (own := [("number", 2), ("more", 3)]) (N := N_together) (sc := defScope s_together) (by decide +kernel)) (fun _ _ _ _ _ => (pg_tupK (K := K) (n := 2) rfl rfl (pgs_cons (pg_name (i := 2) sc_together.nd rfl (Or.inl rfl)) (pgs_cons (pg_name (i := 3) sc_together.nd rfl (Or.inl rfl)) pgs_nil)))) (fun _ _ _ _ _ => pts_nil) (fun _ _ _ _ _ => (pe_op op_add (pv 2) (pv 3)))))), ?_⟩
    refine ⟨_, rfl, _, rfl, a, b, _, _, rfl, SqL.of ha, SqL.of hb, fun B nB => lc_it (walk_zip (xs := xs.map V.int) (ys := ys.map V.int) rfl) (fun i H' => Same H H' ∧ H' B = some (LI ((togM xs ys).take i))) ⟨same_upd nB, upd_same⟩ (fun i H' _ hp => ⟨SqL.of (hp.1 _ _ ha), SqL.of (hp.1 _ _ hb)⟩) (fun i x H1 H2 hi hp hy => ?_) (fun H1 hp => ?_)⟩
    · obtain ⟨s1, hB⟩ := hp
      obtain ⟨Tt, x1, x2, rfl, nT, rfl, e1, e2⟩ := hy
      obtain ⟨n, hn, rfl⟩ := of_get_ints e1
      obtain ⟨m, hm, rfl⟩ := of_get_ints e2
      rw [List.length_map, List.length_map] at hi
      have hB2 := (same_upd (o := .tup [.int n, .int m]) nT) _ _ hB
      refine ⟨Tt, _, rfl, SqT.of upd_same, rfl, _, _, rfl, _, _, rfl, rfl, rfl, _, rfl, _, rfl, _, _, rfl, rfl, _, hB2, szL' (by rw [List.length_map, List.length_take]; omega), sm_new (s1.trans (same_upd nT)) nB, ?_⟩
      rw [take_succ_at (togM_get hn hm)]
      exact at_app
    · obtain ⟨s1, hB⟩ := hp
      rw [List.length_map, List.length_map, List.take_of_length_le (by rw [togM_len]; exact Nat.le_refl _)] at hB
      exact q H1 B s1 nB hB
theorem ok_content_of {f f1 : Addr} {fd fd1 : FuncData} {k : Nat} (M : Names mg) (D : Def K mg "content_of" s_content_of ["shop", "line"] f fd) (D_together : Def K mg "together" s_together ["content", "other"] f1 fd1) : FnOk P w K mg base CX0 (k + 2) f fd ["shop", "line"] sp_content_of := by
  have G_together : FnOk P w K mg base CX0 (k + 1) f1 fd1 ["content", "other"] sp_together := ok_together M D_together
  refine D.F.ok sc_content_of (fun vs H Q E h => ?_) (fun cdv A outer s H vs Q E hr h => ?_)
  · obtain ⟨a, la, os, l, rfl, _⟩ := h
    rfl
  · obtain ⟨a, la, os, l, rfl, hS, ⟨b, hl1, hl2⟩, lok, fit, q⟩ := h
    obtain ⟨vs, h1, h2, h3⟩ := id hS
    obtain ⟨p, ep, ways⟩ := lok
    have main : ∃ o, os[p]? = some o ∧ -1000 ≤ l.c ∧ l.c ≤ 1000 ∧ ∀ x ∈ l.as, ∃ j : Nat, x = (j : Int) ∧ j < os.length := by
      rcases ways with ⟨c, ts, w1, _, w2, w3, w4⟩ | ⟨c, pr, w1, w2, w3, w4⟩
      · exact ⟨_, w1, by omega, by omega, fun x hx => by rw [w4] at hx; cases hx⟩
      · refine ⟨_, w1, by omega, by omega, fun x hx => ?_⟩
        obtain ⟨j, ej, c', pr', k', hj⟩ := w4 x hx
        exact ⟨j, ej, (List.getElem?_eq_some_iff.mp hj).1⟩
    obtain ⟨o, ho, hc1, hc2, hadds⟩ := main
    have hp : p < os.length := (List.getElem?_eq_some_iff.mp ho).1
    obtain ⟨v, o', g1, g2, g3⟩ := ShopAt.get (H := H) (a := a) h2 hp
    cases Option.some.inj (g2.symm.trans ho)
    obtain ⟨bc, r, hv, hbc⟩ := (h3 p v _ g1 g2).head
    have fo := (fit _ (List.mem_of_getElem? ho)).1
    refine ⟨_, (pss_cons (ps_asg (pv 1) (pg_tup rfl (pgs_cons (pg_name (i := 5) sc_content_of.nd rfl (Or.inl rfl)) (pgs_cons (pg_name (i := 6) sc_content_of.nd rfl (Or.inr rfl)) (pgs_cons (pg_name (i := 4) sc_content_of.nd rfl (Or.inl rfl)) pgs_nil)))))
  (pss_cons (ps_setLc (i := 2) (own := [("number", 7)]) (by rfl) sc_content_of.nd rfl rfl (sw_true rfl rfl rfl (by decide +kernel)) (pi_list (pe_ix ix_tup (pe_ix ix_list (pv 0) (pv 5) (fun _ _ => rfl)) pe_int (fun _ _ => rfl))) (blkOk_by (own := [("number", 7)]) (N := N_content_of) (sc := defScope s_content_of) (by decide +kernel)) (fun _ _ _ _ _ => (pg_name (i := 7) sc_content_of.nd rfl (Or.inl rfl))) (fun _ _ _ _ _ => pts_nil) (fun _ _ _ _ _ => (pe_op op_mul (pv 6) (pv 7))))
  (pss_cons (ps_for PassesOwn.never rfl (pi_list (pv 4)) (pg_name (i := 3) sc_content_of.nd rfl (Or.inl rfl))
   (pss_one (ps_set (i := 2) sc_content_of.nd rfl (Or.inl rfl) (pe_call G_together hr (by rfl) D_together.g D_together.F.kp D_together.b .nil pass0 (pa_cons (pv 2) (pa_cons (pe_ix ix_tup (pe_ix ix_list (pv 0) (pv 3) (fun _ _ => rfl)) pe_int (fun _ _ => rfl)) pa_nil))))))
  (pss_one (ps_ret (pv 2)))))), ?_⟩
    refine ⟨_, rfl, la, _, rfl, SqT.of hl1, rfl, _, _, rfl, _, _, rfl, _, _, rfl, rfl, ?_⟩
    refine ⟨_, rfl, _, rfl, a, _, _, _, rfl, rfl, SqL.of h1, at_of ep g3, v, _, _, _, rfl, rfl, SqT.of hv, atI_nat (j := 1) rfl, bc, rfl, ⟨_, SqL.of hbc⟩, fun B nB => lc_list (xs := o.cont.map V.int) (fun j H' => Same H H' ∧ H' B = some (LI ((o.cont.take j).map (l.c * ·)))) ⟨same_upd nB, upd_same⟩ (fun j H' _ hp => SqL.of (hp.1 _ _ hbc)) (fun j x H1 hx hp => ?_) (fun H1 hp => ?_)⟩
    · obtain ⟨s1, hB⟩ := hp
      obtain ⟨n, hn, rfl⟩ := of_get_ints hx
      have hj := (List.getElem?_eq_some_iff.mp hn).1
      refine ⟨rfl, _, rfl, _, rfl, _, _, rfl, rfl, .inl ⟨by omega, by omega⟩, _, hB, szL' (by rw [List.length_map, List.length_map, List.length_take]; omega), sm_new s1 nB, ?_⟩
      rw [take_succ_at hn, List.map_append]
      exact at_app
    · obtain ⟨s1, hB⟩ := hp
      rw [List.length_map, List.take_length] at hB
      have e0 : contAt os l.p = o.cont := by rw [ep]; exact contAt_get ho
      refine ⟨_, rfl, b, rfl, ⟨_, SqL.of (s1 _ _ hl2)⟩, for_list (xs := l.as.map V.int) (fun j σ H' => ∃ (cq : Addr) (y3 : Option V), σ = [some (.ref a), some (.ref la), some (.ref cq), y3, some (.ref b), some (.int l.p), some (.int l.c), none] ∧ Same H H' ∧ H cq = none ∧ H' cq = some (LI ((l.as.take j).foldl (fun acc x => togM acc (contAt os x)) (o.cont.map (l.c * ·)))) ∧ ((l.as.take j).foldl (fun acc x => togM acc (contAt os x)) (o.cont.map (l.c * ·))).length ≤ 1000) ⟨B, _, rfl, s1, nB, hB, by rw [List.take_zero]; show (o.cont.map _).length ≤ _; rw [List.length_map]; exact fo⟩ (fun j σ H' _ hp => ?_) (fun j x σ H2 hx hp => ?_) (fun σ H2 hp => ?_)⟩
      · obtain ⟨_, _, _, s2, _⟩ := hp
        exact SqL.of (s2 _ _ hl2)
      · obtain ⟨cq, y3, rfl, s2, ncq, hcq, hlen⟩ := hp
        obtain ⟨n, hn, rfl⟩ := of_get_ints hx
        obtain ⟨j2, rfl, hj2⟩ := hadds n (List.mem_of_getElem? hn)
        obtain ⟨v2, o2, k1, k2, k3⟩ := ShopAt.get (H := H) (a := a) h2 hj2
        obtain ⟨b2, r2, hv2, hb2⟩ := (h3 j2 v2 _ k1 k2).head
        refine ⟨_, rfl, _, rfl, _, rfl, a, _, _, _, rfl, rfl, SqL.of (s2 _ _ h1), atI_nat k3, v2, _, _, _, rfl, rfl, SqT.of (s2 _ _ hv2), atI_nat (j := 1) rfl, cq, b2, _, _, rfl, hcq, s2 _ _ hb2, hlen, fun H3 q3 s3 nq3 hq3 => ?_⟩
        refine ⟨q3, _, rfl, s2.trans s3, s2.free nq3, ?_, ?_⟩
        · rw [take_succ_at hn, List.foldl_append]
          show H3 q3 = some (LI (togM _ (contAt os (j2 : Int))))
          rw [contAt_get k2]
          exact hq3
        · rw [take_succ_at hn, List.foldl_append]
          show (togM _ _).length ≤ 1000
          rw [togM_len]
          omega
      · obtain ⟨cq, y3, rfl, s2, ncq, hcq, hlen⟩ := hp
        rw [List.length_map, List.take_length] at hcq
        refine ⟨_, rfl, q H2 cq s2 ncq ?_⟩
        unfold contM
        rw [e0]
        exact hcq
theorem ok_piece_price {f : Addr} {fd : FuncData} {k : Nat} (M : Names mg) (D : Def K mg "piece_price" s_piece_price ["tiers", "count"] f fd) : FnOk P w K mg base CX0 (k + 1) f fd ["tiers", "count"] sp_piece_price := by
  refine D.F.ok sc_piece_price (fun vs H Q E h => ?_) (fun cdv A outer s H vs Q E hr h => ?_)
  · obtain ⟨a, ts, c, rfl, _⟩ := h
    rfl
  · obtain ⟨a, ts, c, rfl, ⟨us, h1, h2, h3⟩, gd, hc, q⟩ := h
    have few := gd.few
    have pos := gd.pos
    refine ⟨_, (pss_one (ps_ret (pe_ix ix_list (pe_lc (own := [("begin", 2), ("price", 3)]) (by rfl) sc_piece_price.nd (pi_list (pv 0)) (blkOk_by (own := [("begin", 2), ("price", 3)]) (N := N_piece_price) (sc := defScope s_piece_price) (by decide +kernel)) (fun _ _ _ _ _ => (pg_tupK (K := K) (n := 2) rfl rfl (pgs_cons (pg_name (i := 2) sc_piece_price.nd rfl (Or.inl rfl)) (pgs_cons (pg_name (i := 3) sc_piece_price.nd rfl (Or.inl rfl)) pgs_nil)))) (fun _ _ _ _ _ => (pts_one (pt_cmpR op_le (pv 2) (pv 1) (nomark _)))) (fun _ _ _ _ _ => (pv 3))) (pe_un un_neg pe_int) (fun _ _ => rfl)))), ?_⟩
    refine ⟨_, rfl, a, rfl, ⟨_, SqL.of h1⟩, fun B nB => lc_list (xs := us.map V.ref) (fun i H' => Same H H' ∧ H' B = some (LI (pieceL (ts.take i) c)) ∧ (pieceL (ts.take i) c).length ≤ i) ⟨same_upd nB, upd_same, Nat.le_refl _⟩ (fun i H' _ hp => SqL.of (hp.1 _ _ h1)) (fun i x H1 hx hp => ?_) (fun H1 hp => ?_)⟩
    · obtain ⟨s1, hB, hlen⟩ := hp
      rw [List.getElem?_map] at hx
      cases hu : us[i]? with
      | none => rw [hu] at hx; cases hx
      | some u =>
        rw [hu] at hx
        cases Option.some.inj hx
        have hi : i < ts.length := by
          have := (List.getElem?_eq_some_iff.mp hu).1
          omega
        have gt := List.getElem?_eq_getElem hi
        refine ⟨u, _, rfl, SqT.of (s1 _ _ (h3 i u _ hu gt)), rfl, _, _, rfl, _, _, rfl, rfl, rfl, _, rfl, _, rfl, _, _, rfl, rfl, _, rfl, ite2 (fun z => ?_) (fun z => ?_)⟩
        · have z2 := of_decide_eq_true z
          refine ⟨_, rfl, _, hB, szL' (by rw [List.length_map]; omega), sm_new s1 nB, ?_, ?_⟩
          · rw [pieceL_take gt, if_pos z2]
            exact at_app
          · rw [pieceL_take gt, if_pos z2, List.length_append, List.length_singleton]
            omega
        · have z2 : ¬ (ts[i]).1 ≤ c := fun y => z (decide_eq_true y)
          refine ⟨s1, ?_, ?_⟩
          · rw [pieceL_take gt, if_neg z2]
            exact hB
          · rw [pieceL_take gt, if_neg z2]
            omega
    · obtain ⟨s1, hB, hlen⟩ := hp
      rw [List.length_map, h2, List.take_length] at hB
      have ne : pieceL ts c ≠ [] := by
        have g0 := List.getElem?_eq_getElem (show 0 < ts.length by omega)
        have e1 := gd.one _ g0
        have hm : (ts[0]'(by omega)) ∈ ts.filter fun t => decide (t.1 ≤ c) := List.mem_filter.mpr ⟨List.getElem_mem _, decide_eq_true (by omega)⟩
        intro z
        unfold pieceL at z
        rw [List.map_eq_nil_iff] at z
        rw [z] at hm
        cases hm
      have hneg : atI ((pieceL ts c).map V.int) (-1) = some (.int (pieceM ts c)) := by
        have e : pieceL ts c = (pieceL ts c).dropLast ++ [pieceM ts c] := by
          unfold pieceM
          rw [List.getLastD_eq_getLast?, List.getLast?_eq_getLast ne]
          exact (List.dropLast_concat_getLast ne).symm
        rw [e, List.map_append]
        exact atI_last _ _
      exact ⟨1, rfl, B, _, -1, _, rfl, rfl, SqL.of hB, hneg, q H1 s1⟩
end
/-! ### price_of -/
/-- the element: shop[add][2] -/
def RPr (H0 : Hp → Prop) : L2.St → Hp → List V → (Nat → Int) → Prop := fun σ H xs val => ∃ (a : Addr) (os : List Ofr) (as : List Int), σ[0]? = some (some (.ref a)) ∧ ShopAt H a os ∧ xs = as.map V.int ∧ (∀ x ∈ as, ∃ j : Nat, x = (j : Int) ∧ ∃ c p k, os[j]? = some (.add c p k)) ∧ val = fun i => addPr os (as.getD i 0)
theorem preSum_map (os : List Ofr) (as : List Int) : ∀ n, n ≤ as.length → preSum (fun i => addPr os (as.getD i 0)) n = ((as.take n).map (addPr os)).sum
  | 0, _ => rfl
  | n + 1, h => by
    have ih := preSum_map os as n (by omega)
    have g := List.getElem?_eq_getElem (show n < as.length by omega)
    show preSum _ n + addPr os (as.getD n 0) = _
    rw [ih, take_succ_at g, List.map_append, List.sum_append, List.getD_eq_getElem?_getD, g]
    simp
theorem sum_bound (os : List Ofr) : ∀ (as : List Int), (∀ x ∈ as, -10000000000000000 ≤ addPr os x ∧ addPr os x ≤ 10000000000000000) → -(10000000000000000 * (as.length : Int)) ≤ (as.map (addPr os)).sum ∧ (as.map (addPr os)).sum ≤ 10000000000000000 * (as.length : Int)
  | [], _ => by simp
  | a :: r, h => by
    have ih := sum_bound os r fun x hx => h x (List.mem_cons_of_mem _ hx)
    have h1 := h a List.mem_cons_self
    rw [List.map_cons, List.sum_cons, List.length_cons]
    omega
section
variable {P : Program} {w : World} {K : PySem.W.Frag} {mg : Str → Option Value} {base : Heap} {T : List Addr}
theorem ok_price_of {f f1 c t : Addr} {fd fd1 : FuncData} {k : Nat} (M : Names mg) (D : Def K mg "price_of" s_price_of ["shop", "line"] f fd) (hc : fd.code = .ref c) (TB : GxR.TabB base mg c t) (ht : t ∈ T) (D_piece_price : Def K mg "piece_price" s_piece_price ["tiers", "count"] f1 fd1) : FnOk P w K mg base CX0 (k + 2) f fd ["shop", "line"] (sp_price_of T) := by
  have G_piece_price : FnOk P w K mg base CX0 (k + 1) f1 fd1 ["tiers", "count"] sp_piece_price := ok_piece_price M D_piece_price
  refine okc D.F hc sc_price_of (fun vs H Q E h => ?_) (fun cdv A outer s H vs Q E ec hr h => ?_)
  · obtain ⟨a, la, os, l, rfl, _⟩ := h
    rfl
  · obtain ⟨a, la, os, l, rfl, hS, ⟨b, hl1, hl2⟩, lok, fit, hT, q⟩ := h
    obtain ⟨vs, h1, h2, h3⟩ := id hS
    obtain ⟨p, ep, ways⟩ := lok
    refine ⟨_, (pss_cons (ps_asg (pv 1) (pg_tup rfl (pgs_cons (pg_name (i := 3) sc_price_of.nd rfl (Or.inl rfl)) (pgs_cons (pg_name (i := 4) sc_price_of.nd rfl (Or.inl rfl)) (pgs_cons (pg_name (i := 5) sc_price_of.nd rfl (Or.inl rfl)) pgs_nil)))))
  (pss_cons (ps_set (i := 2) sc_price_of.nd rfl (Or.inl rfl) (pe_ix ix_list (pv 0) (pv 3) (fun _ _ => rfl)))
  (pss_cons (ps_if (pt_cmpR op_eq (pe_ix ix_tup (pv 2) pe_int (fun _ _ => rfl)) pe_str (nomark _))
   (pss_one (ps_ret (pe_op op_mul (pv 4) (pe_call G_piece_price hr (by rfl) D_piece_price.g D_piece_price.F.kp D_piece_price.b .nil pass0 (pa_cons (pe_ix ix_tup (pv 2) pe_int (fun _ _ => rfl)) (pa_cons (pv 4) pa_nil))))))
   pss_nil)
  (pss_one (ps_ret (pe_op op_add (pe_ix ix_tup (pv 2) pe_int (fun _ _ => rfl)) (pe_sumList (R := RPr (fun _ => True)) hr (by rfl) M.sum (by decide +kernel) TB ec ⟨rfl, rfl, by decide +kernel, rfl, rfl, (by show ∀ y : Str × NameKind, y ∈ _ → y.2 = .free → (defScope s_price_of).names.lookup y.1 = some .cell; decide +kernel)⟩ (pv 5) ?el))))))), ?_⟩
    case el =>
      intro pins σ H1 s1 xs val I1 hT1 hR cenv A' E' i v va s₂ m₂ c1 c2 c3 c4 c5 hv rva hn hma hk
      obtain ⟨a1, os1, as1, e0, ⟨vs1, k1, k2, k3⟩, rfl, hadds, rfl⟩ := hR
      obtain ⟨n, hnn, rfl⟩ := of_get_ints hv
      obtain ⟨t2, rfl⟩ := rva
      obtain ⟨j, rfl, cc', pp, kk, hj⟩ := hadds n (List.mem_of_getElem? hnn)
      have lj : j < os1.length := (List.getElem?_eq_some_iff.mp hj).1
      obtain ⟨v1, o1, g1, g2, g3⟩ := ShopAt.get (H := H1) (a := a1) k2 lj
      cases Option.some.inj (g2.symm.trans hj)
      obtain ⟨b1, hv1, _⟩ := k3 j v1 _ g1 g2
      obtain ⟨m1, hns1, hl1'⟩ := I1.loc
      obtain ⟨u, ru, lk⟩ := hl1' 0 "shop" _ rfl e0 (.inr (.inl rfl))
      cases ru
      rcases lk with ⟨kk', _⟩ | ⟨_, cc, hcc, hcell⟩
      · exact absurd (show (defScope s_price_of).names.lookup ("shop" : Str) = some .local from kk') (by decide +kernel)
      · obtain ⟨its, rv, pl, hz⟩ := I1.list (SqL.of k1)
        obtain ⟨itst, rvt, plt, hzt⟩ := I1.tuple (SqT.of hv1)
        obtain ⟨oc, eoc, doc⟩ := id hcell
        have ncP : cc ≠ t := tab_ne I1 hT1 eoc (.inr fun vs z => by rw [doc] at z; cases z)
        obtain ⟨oa, ea, ca, na, da⟩ := id pl.isList
        have naP : a1 ≠ t := tab_ne I1 hT1 ea (.inl (by rw [ca]; exact fun z => nomatch z))
        obtain ⟨ot, et, ct, nt, dt⟩ := id plt
        have nvP : v1 ≠ t := tab_ne I1 hT1 et (.inl (by rw [ct]; exact fun z => nomatch z))
        have hcell2 : s₂.heap.IsCell cc (some (.ref a1)) := ⟨oc, hk _ _ ncP eoc, doc⟩
        have hL2 : s₂.heap.IsList a1 its.toArray := pl.isList.at fun o e => hk _ _ naP e
        have hT2 : IsTup s₂.heap v1 itst.toArray := ⟨ot, hk _ _ nvP et, ct, nt, dt⟩
        have hcl : cenv.cells.lookup ("shop" : Str) = some cc := by
          rw [c2]
          show some (((envOfC "price_of" (defScope s_price_of) s.heap.objs.size f cdv).cells.lookup ("shop" : Str)).getD 0) = some cc
          rw [show (envOfC "price_of" (defScope s_price_of) s.heap.objs.size f cdv).cells.lookup ("shop" : Str) = some cc from hcc]
          rfl
        have sk : cenv.scope.kind = .function := by rw [c1]
        have hn63 := line63
        obtain ⟨uj, hu1, ru1⟩ := rv.get g3
        cases ru1
        obtain ⟨up, hu2, ru2⟩ := rvt.get (show ([V.str "add", V.ref b1, V.int pp, V.int kk] : List V)[2]? = some (.int pp) from rfl)
        obtain ⟨tp, rfl⟩ := ru2
        have lv := rv.length
        have lvt := rvt.length
        rw [List.length_map] at lv
        have l4 : itst.length = 4 := by rw [← lvt]; rfl
        refine Subscript_ (Subscript_ (wpAny_Name (wpAny_loadName_free sk (by show cenv.scope.names.lookup ("shop" : Str) = _; rw [c1]; rfl) hcl hcell2 (wpAny_Name (wpAny_loadName_local sk (by show cenv.scope.names.lookup ("add" : Str) = _; rw [c1]; rfl) hn hma ?_)))))
        have hz' : os1.length ≤ sizeLine := by
          have := hz
          rw [List.length_map, k2] at this
          exact this
        have hj63 : (j : Int) < 2 ^ 63 := by omega
        refine item_listR hL2 (by omega) hj63 (x := .ref v1) (by rw [Int.toNat_natCast]; simpa using hu1) ?_
        refine wpAny_Constant_int ?_
        refine subscriptTail_builtinR (x := .int pp tp) hT2.typeIs slot_tuple_getitem.lookup (getItem_tuple (s := { s₂ with toks := s₂.toks + 1 }) (j := 2) (Q := fun r s' => r = .int pp tp ∧ (∃ t, r = .int (addPr os1 (as1.getD i 0)) t) ∧ Keeps s₂ s') hT2 (by decide) (by decide) (by rw [List.size_toArray, l4]; exact (ixN_seq (ixN_nat (n := 4) (j := 2) (by decide))).1) (by simpa using hu2) ⟨rfl, ⟨tp, ?_⟩, GxR.keeps_tok _ _⟩) rfl
        rw [show as1.getD i 0 = ((j : Nat) : Int) by rw [List.getD_eq_getElem?_getD, hnn]; rfl]
        unfold addPr
        rw [Int.toNat_natCast, hj]
    refine ⟨_, rfl, la, _, rfl, SqT.of hl1, rfl, _, _, rfl, _, _, rfl, _, _, rfl, rfl, ?_⟩
    rcases ways with ⟨c0, ts, w1, w0, w2, w3, w4⟩ | ⟨c0, pr, w1, w2, w3, w4⟩
    · have hp : p < os.length := (List.getElem?_eq_some_iff.mp w1).1
      obtain ⟨v, o', g1, g2, g3⟩ := ShopAt.get (H := H) (a := a) h2 hp
      cases Option.some.inj (g2.symm.trans w1)
      obtain ⟨bc, tt, hv, hbc, hts⟩ := h3 p v _ g1 g2
      refine ⟨_, rfl, _, rfl, a, _, _, _, rfl, rfl, SqL.of h1, at_of ep g3, ?_⟩
      refine ⟨_, rfl, v, _, _, _, rfl, rfl, SqT.of hv, atI_nat (j := 0) rfl, rfl, true, rfl, ?_⟩
      refine ⟨_, rfl, _, rfl, v, _, _, _, rfl, rfl, SqT.of hv, atI_nat (j := 2) rfl, _, rfl, tt, ts, l.c, rfl, hts, w0, w2, fun H1 s1 => ⟨_, _, rfl, rfl, .inl ⟨by omega, by omega⟩, ?_⟩⟩
      have e := q H1 (.same s1 hT)
      unfold priceM at e
      rw [ep, Int.toNat_natCast, w1] at e
      exact e
    · have hp : p < os.length := (List.getElem?_eq_some_iff.mp w1).1
      obtain ⟨v, o', g1, g2, g3⟩ := ShopAt.get (H := H) (a := a) h2 hp
      cases Option.some.inj (g2.symm.trans w1)
      obtain ⟨bc, hv, hbc⟩ := h3 p v _ g1 g2
      have bnd : ∀ x ∈ l.as, -10000000000000000 ≤ addPr os x ∧ addPr os x ≤ 10000000000000000 := fun x hx => by
        obtain ⟨j, rfl, c', p', k', hj⟩ := w4 x hx
        have := (fit _ (List.mem_of_getElem? hj)).2 c' p' k' rfl
        unfold addPr
        rw [Int.toNat_natCast, hj]
        exact this
      have bsub : ∀ n, n ≤ l.as.length → InLong (((l.as.take n).map (addPr os)).sum) := fun n hn => by
        have := sum_bound os (l.as.take n) fun x hx => bnd x (List.mem_of_mem_take hx)
        rw [List.length_take, Nat.min_eq_left hn] at this
        unfold InLong
        omega
      refine ⟨_, rfl, _, rfl, a, _, _, _, rfl, rfl, SqL.of h1, at_of ep g3, ?_⟩
      refine ⟨_, rfl, v, _, _, _, rfl, rfl, SqT.of hv, atI_nat (j := 0) rfl, rfl, false, rfl, ?_⟩
      refine ⟨_, rfl, v, _, _, _, rfl, rfl, SqT.of hv, atI_nat (j := 2) rfl, _, rfl, b, _, (fun i => addPr os (l.as.getD i 0)), rfl, SqL.of hl2, hT t ht, ⟨a, os, l.as, rfl, hS, rfl, w4, rfl⟩, fun j hj => ?_, fun H2 t2 => ⟨_, _, rfl, rfl, ?_⟩⟩
      · rw [List.length_map] at hj
        refine ⟨?_, ?_⟩
        · have := bnd _ (List.getElem_mem hj)
          show InLong (addPr os (l.as.getD j 0))
          rw [show l.as.getD j 0 = l.as[j] by rw [List.getD_eq_getElem?_getD, List.getElem?_eq_getElem hj]; rfl]
          unfold InLong
          omega
        · rw [preSum_map os l.as (j + 1) (by omega)]
          exact bsub _ (by omega)
      · rw [List.length_map, preSum_map os l.as _ (Nat.le_refl _), List.take_length]
        have e := q H2 (.tabbed hT t2 ht)
        unfold priceM at e
        rw [ep, Int.toNat_natCast, w1] at e
        exact e
end
/-! ### any(xs) of ints; tuple(xs) at a written K -/
theorem truth_ints {prog : Program} {w : World} {A : Around} {ns : List Int} {its : List Value} (rv : Vals (ns.map V.int) its) :
    TruthOf prog w A (fun i v => its.toArray[i]? = some v) (fun i => (ns.getD i 0) != 0) := by
  intro i v s Q E at_ q
  have inIts : its[i]? = some v := by simpa using at_
  have li : i < ns.length := List.length_map (f := V.int) ▸ rv.length.symm ▸ (List.getElem?_eq_some_iff.mp inIts).1
  obtain ⟨_, hu, t, rfl⟩ := rv.get (get_ints (List.getElem?_eq_getElem li))
  cases inIts.symm.trans hu
  have same : ns.getD i 0 = ns[i] := by
    rw [List.getD_eq_getElem?_getD, List.getElem?_eq_getElem li]
    rfl
  exact PySem.P.truthy_int (same ▸ q)
def anyI (ns : List Int) : Bool := ns.any (· != 0)
theorem anyI_range : ∀ ns : List Int, (List.range ns.length).any (fun i => (ns.getD i 0) != 0) = anyI ns
  | [] => rfl
  | b :: bs => by
    unfold anyI
    rw [List.length_cons, List.range_succ_eq_map, List.any_cons, List.any_map, List.any_cons]
    have ih := anyI_range bs
    unfold anyI at ih
    rw [← ih]
    rfl
def rAnyI (K : PySem.W.Frag) : List V → Hp → VK → Prop := fun vs H Q => ∃ (a : Addr) (ns : List Int), vs = [V.ref a] ∧ SqL K H a (ns.map V.int) ∧ Q (.bl (anyI ns)) H
theorem cr_anyI {X : Cx} (hc : X.calm = true) : CallR X (.builtin "any") (rAnyI X.K) := by
  rintro pins s σ H _ us Q I r ⟨a, ns, rfl, held, q⟩
  obtain ⟨its, rv, there, _⟩ := I.list held
  have many : its.length = ns.length := rv.length.symm.trans (List.length_map ..)
  cases Vals.ref1 r
  refine call_any_walk (iter_any there.isList ?_)
  rintro t rfl st apart
  refine ⟨_, _, _, _, _, _, _, rfl, Walks.list (A := X.A.in1) (I.ok.hd hc) _ a apart its.toArray, st, truth_ints rv, fun h' tk more => ⟨.bl _, H, I.kept fun b o e => more b o (fun z => ?_) (Heap.get?_push_of_some _ e), ?_, q⟩⟩
  · cases List.mem_singleton.mp z
    exact Nat.lt_irrefl _ (Heap.lt_size e)
  · exact congrArg Value.bool (by rw [← anyI_range, List.size_toArray, many])
theorem cr_anyIK {X : Cx} {K : PySem.W.Frag} (h : X.K = K) (hc : X.calm = true) : CallR X (.builtin "any") (rAnyI K) := by subst h; exact cr_anyI hc
theorem pe_tupleOfK {X : Cx} {K : PySem.W.Frag} {a : Expr} {ta : TE} {p pos : Pos} (h : X.K = K) (hg : Gl X "tuple") (hm : X.mg "tuple" = none) (ha : PE X a ta) (na : starEach [a] X.env = (false, eval a X.env) :: starEach [] X.env := by rfl) :
    PE X (.Call (.Name "tuple" p) [a] [] pos) (tThen ta (kTup K)) := by subst h; exact pe_tupleOf hg hm ha na
/-! ### had -/
abbrev s_had : Stmt := topS 20
abbrev N_had : List Str := ["content", "thing"]
theorem sc_had : FnScope N_had ["content", "thing"] (defScope s_had) := ⟨rfl, rfl, rfl, by decide +kernel, rfl, by decide +kernel, by decide +kernel⟩

def hadM (cs : List Int) (i : Nat) : Int := cs.getD i 0
theorem hadM_in {cs : List Int} {i : Nat} (h : i < cs.length) : cs[i]? = some (hadM cs i) := by
  unfold hadM
  rw [List.getD_eq_getElem?_getD, List.getElem?_eq_getElem h]
  rfl
theorem hadM_out {cs : List Int} {i : Nat} (h : ¬ i < cs.length) : hadM cs i = 0 := by
  unfold hadM
  rw [List.getD_eq_getElem?_getD, List.getElem?_eq_none (by omega)]
  rfl
def sp_had (K : PySem.W.Frag) : Sp := fun vs H Q _ => ∃ (a : Addr) (cs : List Int) (i : Nat), vs = [.ref a, .int i] ∧ SqL K H a (cs.map V.int) ∧ Q (.int (hadM cs i)) H
section
variable {P : Program} {w : World} {K : PySem.W.Frag} {mg : Str → Option Value} {base : Heap}
theorem ok_had {f : Addr} {fd : FuncData} {k : Nat} (M : Names mg) (D : Def K mg "had" s_had ["content", "thing"] f fd) : FnOk P w K mg base CX0 (k + 1) f fd ["content", "thing"] (sp_had K) := by
  refine D.F.ok sc_had (fun vs H Q E h => ?_) (fun cdv A outer s H vs Q E hr h => ?_)
  · obtain ⟨a, cs, i, rfl, _⟩ := h
    rfl
  · obtain ⟨a, cs, i, rfl, ha, q⟩ := h
    refine ⟨_, (pss_one (ps_ret (pe_ifExp (pt_cmpR op_lt (pv 1) (pe_callB call_len_seq (by rfl) M.len (by decide +kernel) (pa_cons (pv 0) pa_nil)) (nomark _)) (pe_ix ix_list (pv 0) (pv 1) (fun _ _ => rfl)) pe_int))), ?_⟩
    refine ⟨_, rfl, _, rfl, a, _, rfl, .inl ha, _, _, rfl, rfl, _, rfl, ite2 (fun c => ?_) (fun c => ?_)⟩
    · have c2 : (i : Int) < ((cs.map V.int).length : Int) := of_decide_eq_true c
      rw [List.length_map] at c2
      exact ⟨_, rfl, _, rfl, a, _, _, _, rfl, rfl, ha, atI_nat (get_ints (hadM_in (by omega))), q⟩
    · have c2 : ¬ (i : Int) < ((cs.map V.int).length : Int) := fun z => c (decide_eq_true z)
      rw [List.length_map] at c2
      rw [hadM_out (by omega)] at q
      exact q
/-- had, called where nothing is known of the frames: all objects stay -/
theorem had_quiet {f : Addr} {fd : FuncData} {mb : Str → Option Value} (M : Names mg) (D : Def K mg "had" s_had ["content", "thing"] f fd) {A' : Around} {E' : Value → Shared → Prop} {s : Shared} {L : Addr} {cs : List Int} {its : List Value} {i : Nat} {t : Tok} (KX : K.In s.heap)
    (hg : s.heap.Ns mainGlobals mg) (hb : s.heap.Ns builtinsNs mb) (hbb : ∀ x : Str, x ≠ "__name__" → mb x = bootBuiltins x) (hlim : s.heap.NoLimit) (hA : A'.depth < recursionLimit)
    (hL : s.heap.IsList L its.toArray) (rv : Vals (cs.map V.int) its) (hz : cs.length ≤ sizeLine) :
    wpAny (model P w) A' (call (.ref f) [.ref L, .int i t]) (fun y s₃ => (∃ t', y = .int (hadM cs i) t') ∧ Keeps s s₃) E' s := by
  obtain ⟨oc, od, kV, doc, pm, an, cdv, ct, osl, rfl, lk, hcd⟩ := D.F.ex
  refine wpAny_call (Att.call_fn KX hlim lk hcd hA (D.b s [.ref L, .int i t] KX rfl) (by rfl) (fun s₁ x => ?_) rfl rfl rfl)
  obtain ⟨h1, tk1, e1, keep1⟩ := x.done
  have hn := x.toInCall.ns
  subst e1
  have hL1 : h1.IsList L its.toArray := hL.at fun o e => keep1 L o e
  have hll := rv.length
  rw [List.length_map] at hll
  have hn63 := line63
  have fin : ∀ (v : Value) (s' : Shared), (∃ t', v = .int (hadM cs i) t') → Keeps { s with heap := h1, toks := tk1 } s' → (∃ t', v = .int (hadM cs i) t') ∧ Keeps s s' := fun v s' hv ⟨h', tk', e, kk⟩ => ⟨hv, h', tk', e, fun b o e => kk b o (keep1 b o e)⟩
  have nameC : ∀ {Q : Value → Shared → Prop} {E : Value → Shared → Prop} {pos : Pos} {tk : Nat}, Q (.ref L) { s with heap := h1, toks := tk } → wpAny (model P w) (A'.deeper (envOfC "had" (defScope s_had) s.heap.objs.size f cdv)) (eval (.Name "content" pos) (envOfC "had" (defScope s_had) s.heap.objs.size f cdv)) Q E { s with heap := h1, toks := tk } := fun h => wpAny_Name (wpAny_loadName_local rfl rfl hn rfl h)
  have nameT : ∀ {Q : Value → Shared → Prop} {E : Value → Shared → Prop} {pos : Pos} {tk : Nat}, Q (.int i t) { s with heap := h1, toks := tk } → wpAny (model P w) (A'.deeper (envOfC "had" (defScope s_had) s.heap.objs.size f cdv)) (eval (.Name "thing" pos) (envOfC "had" (defScope s_had) s.heap.objs.size f cdv)) Q E { s with heap := h1, toks := tk } := fun h => wpAny_Name (wpAny_loadName_local rfl rfl hn rfl h)
  show wpAny _ _ (execs (defBody s_had) (envOfC "had" (defScope s_had) s.heap.objs.size f cdv)) _ _ _
  refine wpAny_execs_cons (wpAny_Return_some (wpAny_IfExp (wpAny_isTrue_Compare1 (nameT ?_))))
  refine wpAny_Call_Name_kw (Calls.Name_function_global rfl rfl (Calls.loadGlobal_builtin (hg.keeps keep1) M.len (hb.keeps keep1) ((hbb "len" (by decide)).trans boot_len) ?_))
  refine PyProof.Rows.callWith_builtin1 (Calls.spliced_cons (nameC (Calls.spliced_nil ?_)))
  refine Calls.call_len_list (hl := hL1) (by rw [List.size_toArray]; omega) ?_
  refine lt_int (wpAny_truthy_bool ?_)
  by_cases c : (i : Int) < (its.toArray.size : Int)
  · rw [decide_eq_true c]
    rw [List.size_toArray] at c
    have hi : i < cs.length := by omega
    obtain ⟨u, hu, ru⟩ := rv.get (get_ints (hadM_in hi))
    obtain ⟨t', rfl⟩ := ru
    refine Subscript_ (nameC (nameT ?_))
    refine item_listR hL1 (by omega) (by omega) (x := .int (hadM cs i) t') (by rw [Int.toNat_natCast]; simpa using hu) ?_
    exact fin _ _ ⟨t', rfl⟩ ⟨_, _, rfl, fun b o e => e⟩
  · rw [decide_eq_false c]
    rw [List.size_toArray] at c
    refine wpAny_Constant_int ?_
    exact fin _ _ ⟨_, by rw [hadM_out (by omega)]⟩ ⟨_, _, rfl, fun b o e => e⟩
end
abbrev s_rest : Stmt := topS 21
abbrev N_rest : List Str := ["want", "content", "thing", "number"]
theorem sc_rest : FnScope N_rest ["want", "content"] (defScope s_rest) := ⟨rfl, rfl, rfl, by decide +kernel, rfl, by decide +kernel, by decide +kernel⟩

/-! ### rest -/
def restM (ws cs : List Int) : List Int := (List.range ws.length).map fun i => if ws.getD i 0 - hadM cs i > 0 then ws.getD i 0 - hadM cs i else 0
theorem restM_get {ws cs : List Int} {i : Nat} {n : Int} (h : ws[i]? = some n) : (restM ws cs)[i]? = some (if n - hadM cs i > 0 then n - hadM cs i else 0) := by
  have hi : i < ws.length := (List.getElem?_eq_some_iff.mp h).1
  unfold restM
  rw [List.getElem?_map, List.getElem?_range hi]
  show some (if ws.getD i 0 - hadM cs i > 0 then ws.getD i 0 - hadM cs i else 0) = _
  rw [show ws.getD i 0 = n by rw [List.getD_eq_getElem?_getD, h]; rfl]
theorem restM_len (ws cs : List Int) : (restM ws cs).length = ws.length := by
  unfold restM
  rw [List.length_map, List.length_range]
def sp_rest (K : PySem.W.Frag) : Sp := fun vs H Q _ => ∃ (a b : Addr) (ws cs : List Int), vs = [.ref a, .ref b] ∧ SqL K H a (ws.map V.int) ∧ SqL K H b (cs.map V.int) ∧ ws.length ≤ 1000 ∧ ∀ H' p, Same H H' → H p = none → H' p = some (LI (restM ws cs)) → Q (.ref p) H'
section
variable {P : Program} {w : World} {K : PySem.W.Frag} {mg : Str → Option Value} {base : Heap}
theorem ok_rest {f fh : Addr} {fd fdh : FuncData} {k : Nat} (M : Names mg) (D : Def K mg "rest" s_rest ["want", "content"] f fd) (D_had : Def K mg "had" s_had ["content", "thing"] fh fdh) : FnOk P w K mg base CX0 (k + 2) f fd ["want", "content"] (sp_rest K) := by
  have G_had : FnOk P w K mg base CX0 (k + 1) fh fdh ["content", "thing"] (sp_had K) := ok_had M D_had
  refine D.F.ok sc_rest (fun vs H Q E h => ?_) (fun cdv A outer s H vs Q E hr h => ?_)
  · obtain ⟨a, b, ws, cs, rfl, _⟩ := h
    rfl
  · obtain ⟨a, b, ws, cs, rfl, ha, hb, hl, q⟩ := h
    refine ⟨_, (pss_one (ps_ret (pe_lc (own := [("thing", 2), ("number", 3)]) (by rfl) sc_rest.nd (pi_enum (by rfl) M.enumerate (pa_cons (pv 0) pa_nil)) (blkOk_by (own := [("thing", 2), ("number", 3)]) (N := N_rest) (sc := defScope s_rest) (by decide +kernel)) (fun _ _ _ _ _ => (pg_tupK (K := K) (n := 2) rfl rfl (pgs_cons (pg_name (i := 2) sc_rest.nd rfl (Or.inl rfl)) (pgs_cons (pg_name (i := 3) sc_rest.nd rfl (Or.inl rfl)) pgs_nil)))) (fun _ _ _ _ _ => pts_nil) (fun _ _ _ _ _ => (pe_callB (call_max2 rfl) (by rfl) M.max (by decide +kernel) (pa_cons pe_int (pa_cons (pe_op op_sub (pv 3) (pe_call G_had hr (by rfl) D_had.g D_had.F.kp D_had.b .nil pass0 (pa_cons (pv 1) (pa_cons (pv 2) pa_nil)))) pa_nil))))))), ?_⟩
    refine ⟨_, rfl, a, _, rfl, ha, fun L nL => lc_it (walk_enum (xs := ws.map V.int)) (fun i H' => Same H H' ∧ H' L = some (LI ((restM ws cs).take i))) ⟨same_upd nL, upd_same⟩ (fun i H' _ hp => hp.1.seq ha) (fun i x H1 H2 hi hp hy => ?_) (fun H1 hp => ?_)⟩
    · obtain ⟨s1, hL⟩ := hp
      obtain ⟨T, x1, x2, rfl, nT, rfl, e1, e2⟩ := hy
      cases Option.some.inj e1
      obtain ⟨n, hn, rfl⟩ := of_get_ints e2
      have nLT : L ≠ T := ne_of_none hL nT
      have s2 : Same H (upd H1 T (.tup [.int (i : Nat), .int n])) := s1.trans (same_upd nT)
      rw [List.length_map] at hi
      refine ⟨T, _, rfl, SqT.of upd_same, rfl, _, _, rfl, _, _, rfl, rfl, rfl, _, rfl, _, rfl, _, rfl, b, cs, i, rfl, s2.seq hb, _, _, rfl, rfl, _, _, rfl, _, (by rw [upd_ne nLT]; exact hL), szL' (by rw [List.length_map, List.length_take]; omega), sm_new s2 nL, ?_⟩
      rw [take_succ_at (restM_get hn)]
      exact at_app
    · obtain ⟨s1, hL⟩ := hp
      rw [List.length_map, List.take_of_length_le (by rw [restM_len]; omega)] at hL
      exact q _ L s1 nL hL
end
/-! ### small numbers -/
def casesM (ws : List Int) : Int := ws.foldl (fun p w => p * (w + 1)) 1
theorem casesM_take {ws : List Int} {i : Nat} {x : Int} (h : ws[i]? = some x) : casesM (ws.take (i + 1)) = casesM (ws.take i) * (x + 1) := by
  unfold casesM
  rw [take_succ_at h, List.foldl_append]
  rfl
theorem first_at : ∀ {l : List Int} {x : Int}, x ∈ l → ∃ j : Nat, l[j]? = some x ∧ ∀ (m : Nat) y, m < j → l[m]? = some y → y ≠ x
  | a :: r, x, h => by
    by_cases e : a = x
    · subst e
      exact ⟨0, rfl, fun m y hm => absurd hm (Nat.not_lt_zero _)⟩
    · obtain ⟨j, h1, h2⟩ := first_at (l := r) ((List.mem_cons.mp h).resolve_left fun z => e z.symm)
      refine ⟨j + 1, h1, fun m y hm hy => ?_⟩
      cases m with
      | zero =>
        have : a = y := Option.some.inj hy
        rw [← this]
        exact e
      | succ m => exact h2 m y (by omega) hy
theorem casesM_zero : ∀ (ws : List Int) (p : Int), (∀ w ∈ ws, w = 0) → ws.foldl (fun p w => p * (w + 1)) p = p
  | [], _, _ => rfl
  | a :: r, p, h => by
    have e : a = 0 := h a List.mem_cons_self
    subst e
    show r.foldl (fun p w => p * (w + 1)) (p * (0 + 1)) = p
    rw [casesM_zero r _ fun w hw => h w (List.mem_cons_of_mem _ hw)]
    omega
theorem sum_nonneg : ∀ {ws : List Int}, (∀ w ∈ ws, 0 ≤ w) → 0 ≤ ws.sum
  | [], _ => by decide
  | a :: r, h => by
    have h1 := h a List.mem_cons_self
    have h2 := sum_nonneg (ws := r) fun w hw => h w (List.mem_cons_of_mem _ hw)
    rw [List.sum_cons]
    omega
theorem sum_get : ∀ {ws : List Int} {j : Nat} {x : Int}, (∀ w ∈ ws, 0 ≤ w) → ws[j]? = some x → x ≤ ws.sum
  | [], j, x, _, h => by simp at h
  | a :: r, 0, x, hh, h => by
    have e : a = x := Option.some.inj h
    have := sum_nonneg (ws := r) fun w hw => hh w (List.mem_cons_of_mem _ hw)
    rw [List.sum_cons]
    omega
  | a :: r, j + 1, x, hh, h => by
    have h1 := hh a List.mem_cons_self
    have h2 := sum_get (ws := r) (j := j) (x := x) (fun w hw => hh w (List.mem_cons_of_mem _ hw)) h
    rw [List.sum_cons]
    omega
def Small (ws : List Int) : Prop := ∀ w ∈ ws, 0 ≤ w ∧ w ≤ 9
theorem Small.app {ws : List Int} {n : Int} (h : Small ws) (h1 : 0 ≤ n) (h2 : n ≤ 9) : Small (ws ++ [n]) := fun w hw => by
  rcases List.mem_append.mp hw with z | z
  · exact h w z
  · rw [List.mem_singleton.mp z]
    exact ⟨h1, h2⟩
theorem Small.big {ws : List Int} (h : Small ws) : ∀ w ∈ ws, -1000000 ≤ w ∧ w ≤ 1000000 := fun w hw => by
  have := h w hw
  omega
/-! ### lesser wants, in order -/
/-- 0, 1, .. n (none below nought) -/
def upto (n : Int) : List Int := (List.range (n + 1).toNat).map fun (i : Nat) => (i : Int)
def lesserF : List Int → List (List Int)
  | [] => [[]]
  | n :: w => (upto n).flatMap fun a => (lesserF w).map (a :: ·)
theorem lesserF_snoc : ∀ (w : List Int) (n : Int), lesserF (w ++ [n]) = (lesserF w).flatMap fun s => (upto n).map fun l => s ++ [l]
  | [], n => by
    show (upto n).flatMap (fun a => [[a]]) = _
    simp only [lesserF, List.flatMap_cons, List.flatMap_nil, List.append_nil, List.nil_append]
    induction upto n with
    | nil => rfl
    | cons x r ih => rw [List.flatMap_cons, List.map_cons, ih]; rfl
  | m :: w, n => by
    show (upto m).flatMap (fun a => (lesserF (w ++ [n])).map (a :: ·)) = ((upto m).flatMap fun a => (lesserF w).map (a :: ·)).flatMap _
    rw [lesserF_snoc w n, List.flatMap_assoc]
    congr 1
    funext a
    rw [List.map_flatMap, List.flatMap_map]
    congr 1
    funext s
    rw [List.map_map]
    rfl
theorem upto_length {n : Int} : (upto n).length = (n + 1).toNat := by
  unfold upto
  rw [List.length_map, List.length_range]
theorem upto_get {n : Int} {i : Nat} (h : i < (n + 1).toNat) : (upto n)[i]? = some (i : Int) := by
  unfold upto
  rw [List.getElem?_map, List.getElem?_range h]
  rfl
theorem flatMap_const_length {α β : Type} (l : List α) (f : α → List β) (c : Nat) (h : ∀ a ∈ l, (f a).length = c) : (l.flatMap f).length = l.length * c := by
  induction l with
  | nil => simp
  | cons a r ih =>
    rw [List.flatMap_cons, List.length_append, h a List.mem_cons_self, ih fun b hb => h b (List.mem_cons_of_mem _ hb), List.length_cons, Nat.add_mul]
    omega
theorem lesserF_length_cons (n : Int) (w : List Int) : (lesserF (n :: w)).length = (n + 1).toNat * (lesserF w).length := by
  show ((upto n).flatMap fun a => (lesserF w).map (a :: ·)).length = _
  rw [flatMap_const_length _ _ (lesserF w).length (fun a _ => List.length_map _), upto_length]
theorem cases_foldl : ∀ (w : List Int) (p : Int), (∀ x ∈ w, 0 ≤ x) → w.foldl (fun p w => p * (w + 1)) p = p * ((lesserF w).length : Int)
  | [], p, _ => by
    show p = p * ((1 : Nat) : Int)
    omega
  | n :: w, p, h => by
    have hn := h n List.mem_cons_self
    show w.foldl (fun p w => p * (w + 1)) (p * (n + 1)) = _
    rw [cases_foldl w _ fun x hx => h x (List.mem_cons_of_mem _ hx), lesserF_length_cons, Int.natCast_mul, Int.toNat_of_nonneg (by omega), Int.mul_assoc]
theorem casesM_lesser {w : List Int} (h : ∀ x ∈ w, 0 ≤ x) : casesM w = ((lesserF w).length : Int) := by
  unfold casesM
  rw [cases_foldl w 1 h]
  omega
/-- the next one, by the last place that is less -/
def nextF : List Int → List Int → Option (List Int)
  | a :: r, b :: w => match nextF r w with
    | some r' => some (a :: r')
    | none => if a = b then none else some ((a + 1) :: List.replicate r.length 0)
  | _, _ => none
theorem nextF_self : ∀ w : List Int, nextF w w = none
  | [] => rfl
  | a :: w => by
    unfold nextF
    rw [nextF_self w]
    simp
theorem nextF_at : ∀ (l l' r : List Int) (a b : Int), l.length = l'.length → a ≠ b → nextF (l ++ a :: r) (l' ++ b :: r) = some (l ++ (a + 1) :: List.replicate r.length 0)
  | [], [], r, a, b, _, h => by
    show nextF (a :: r) (b :: r) = some ((a + 1) :: List.replicate r.length 0)
    unfold nextF
    rw [nextF_self r]
    simp [h]
  | x :: l, y :: l', r, a, b, hl, h => by
    show nextF (x :: (l ++ a :: r)) (y :: (l' ++ b :: r)) = _
    unfold nextF
    rw [nextF_at l l' r a b (by simpa using hl) h]
    rfl
/-- what a row of lists is behind another -/
inductive Chain (w : List Int) : List (List Int) → Prop
  | one {r : List Int} (h : nextF r w = none) : Chain w [r]
  | cons {r s : List Int} {l : List (List Int)} (h : nextF r w = some s) (t : Chain w (s :: l)) : Chain w (r :: s :: l)
theorem Chain.map {w : List Int} {a n : Int} : ∀ {l : List (List Int)} {r : List Int}, Chain w (r :: l) → ∀ {rest : List (List Int)}, (a = n ∧ rest = [] ∨ a ≠ n ∧ ∃ z m, rest = z :: m ∧ z = (a + 1) :: List.replicate w.length 0 ∧ Chain (n :: w) (z :: m)) → (∀ s ∈ r :: l, s.length = w.length) →
    Chain (n :: w) (((r :: l).map (a :: ·)) ++ rest)
  | [], r, .one h, rest, hr, hlen => by
    have hrl := hlen r List.mem_cons_self
    rcases hr with ⟨e, rfl⟩ | ⟨e, z, m, rfl, ez, c⟩
    · refine .one ?_
      show nextF (a :: r) (n :: w) = none
      unfold nextF
      rw [h]
      simp [e]
    · refine .cons ?_ c
      show nextF (a :: r) (n :: w) = some z
      unfold nextF
      rw [h]
      simp [e, ez, hrl]
  | s :: l, r, .cons h t, rest, hr, hlen => by
    refine .cons ?_ (Chain.map t hr fun x hx => hlen x (List.mem_cons_of_mem _ hx))
    show nextF (a :: r) (n :: w) = some (a :: s)
    unfold nextF
    rw [h]
theorem lesserF_len : ∀ {w r : List Int}, r ∈ lesserF w → r.length = w.length
  | [], r, h => by
    rw [List.mem_singleton.mp h]
  | n :: w, r, h => by
    obtain ⟨a, _, h2⟩ := List.mem_flatMap.mp h
    obtain ⟨s, h3, rfl⟩ := List.mem_map.mp h2
    rw [List.length_cons, List.length_cons, lesserF_len h3]
/-- the tail of the order: from first number k on, d more -/
theorem chain_from {n : Int} {w : List Int} {l : List (List Int)} (hl : lesserF w = List.replicate w.length 0 :: l) (c : Chain w (lesserF w)) : ∀ (d k : Nat), ((k + d : Nat) : Int) = n →
    ∃ z m, ((List.range (d + 1)).map fun (i : Nat) => ((k + i : Nat) : Int)).flatMap (fun a => (lesserF w).map (a :: ·)) = z :: m ∧ z = (k : Int) :: List.replicate w.length 0 ∧ Chain (n :: w) (z :: m)
  | 0, k, e => by
    have c' := c
    rw [hl] at c'
    have q := Chain.map (a := (k : Int)) (n := n) c' (rest := []) (.inl ⟨by omega, rfl⟩) (fun s hs => lesserF_len (by rw [hl]; exact hs))
    refine ⟨(k : Int) :: List.replicate w.length 0, l.map ((k : Int) :: ·), ?_, rfl, ?_⟩
    · simp [hl]
    · simpa using q
  | d + 1, k, e => by
    obtain ⟨z, m, h1, h2, h3⟩ := chain_from (n := n) hl c d (k + 1) (by omega)
    have c' := c
    rw [hl] at c'
    have q := Chain.map (a := (k : Int)) (n := n) c' (rest := z :: m) (.inr ⟨by omega, z, m, rfl, by rw [h2]; rfl, h3⟩) (fun s hs => lesserF_len (by rw [hl]; exact hs))
    refine ⟨(k : Int) :: List.replicate w.length 0, l.map ((k : Int) :: ·) ++ (z :: m), ?_, rfl, ?_⟩
    · rw [List.range_succ_eq_map, List.map_cons, List.flatMap_cons, List.map_map]
      have e2 : ((fun (i : Nat) => ((k + i : Nat) : Int)) ∘ Nat.succ) = fun (i : Nat) => ((k + 1 + i : Nat) : Int) := by
        funext i
        show ((k + (i + 1) : Nat) : Int) = _
        congr 1
        omega
      rw [e2, h1, hl]
      rfl
    · simpa using q
theorem lesserF_chain : ∀ {w : List Int}, (∀ x ∈ w, 0 ≤ x) → Chain w (lesserF w) ∧ ∃ l, lesserF w = List.replicate w.length 0 :: l
  | [], _ => ⟨.one rfl, [], rfl⟩
  | n :: w, h => by
    have hn := h n List.mem_cons_self
    obtain ⟨c, l, hl⟩ := lesserF_chain (w := w) fun x hx => h x (List.mem_cons_of_mem _ hx)
    obtain ⟨z, m, h1, h2, h3⟩ := chain_from (n := n) hl c n.toNat 0 (by omega)
    have e : lesserF (n :: w) = z :: m := by
      rw [← h1]
      show (upto n).flatMap _ = _
      unfold upto
      rw [show (n + 1).toNat = n.toNat + 1 by omega]
      congr 2
      funext i
      congr 1
      omega
    rw [e]
    exact ⟨h3, m, by rw [h2]; rfl⟩
theorem Chain.at {w : List Int} : ∀ {l : List (List Int)} {i : Nat} {r : List Int}, Chain w l → l[i]? = some r → nextF r w = l[i + 1]?
  | _, 0, r, .one h, e => by
    cases Option.some.inj e
    exact h
  | _, i + 1, r, .one h, e => by simp at e
  | _, 0, r, .cons h t, e => by
    cases Option.some.inj e
    exact h
  | _, i + 1, r, .cons h t, e => by
    have q := Chain.at (i := i) (r := r) t (by simpa using e)
    simpa using q
/-! ### lesser -/
abbrev s_lesser : Stmt := topS 22
abbrev N_lesser : List Str := ["want", "begun", "number", "start", "less"]
theorem sc_lesser : FnScope N_lesser ["want"] (defScope s_lesser) := ⟨rfl, rfl, rfl, by decide +kernel, rfl, by decide +kernel, by decide +kernel⟩

/-- at D stands a list of new lists, one for each of rs -/
def Made (H1 : Hp) (D : Addr) (H' : Hp) (rs : List (List Int)) : Prop := ∃ bs : List Addr, H' D = some (.lst (bs.map V.ref)) ∧ bs.length = rs.length ∧ bs.Nodup ∧ ∀ (i : Nat) b r, bs[i]? = some b → rs[i]? = some r → H1 b = none ∧ b ≠ D ∧ H' b = some (LI r)
theorem Made.snoc {H1 H' H2 : Hp} {D p : Addr} {rs : List (List Int)} {r : List Int} (h : Made H1 D H' rs) (s1 : Same H1 H') (s2 : Same H' H2) (np : H' p = none) (hp : H2 p = some (LI r)) :
    ∃ acc, H2 D = some (.lst acc) ∧ acc.length = rs.length ∧ Made H1 D (upd H2 D (.lst (acc ++ [.ref p]))) (rs ++ [r]) := by
  obtain ⟨bs, hD, hl, nd, hr⟩ := h
  have npD : p ≠ D := (ne_of_none hD np).symm
  refine ⟨bs.map V.ref, s2 _ _ hD, by rw [List.length_map]; exact hl, bs ++ [p], ?_, ?_, ?_, fun i b r' hb hr' => ?_⟩
  · rw [upd_same, List.map_append]
    rfl
  · rw [List.length_append, List.length_append, hl]
    rfl
  · refine List.nodup_append.mpr ⟨nd, by simp, fun x hx y hy => ?_⟩
    rw [List.mem_singleton.mp hy]
    obtain ⟨i, hi, e⟩ := List.getElem_of_mem hx
    have h1 : bs[i]? = some x := by rw [List.getElem?_eq_getElem hi, e]
    obtain ⟨r0, h2⟩ : ∃ r0, rs[i]? = some r0 := ⟨rs[i]'(by omega), List.getElem?_eq_getElem (by omega)⟩
    exact ne_of_none (hr i x r0 h1 h2).2.2 np
  · rcases Nat.lt_or_ge i bs.length with hi | hi
    · rw [List.getElem?_append_left hi] at hb
      rw [List.getElem?_append_left (by omega)] at hr'
      obtain ⟨t1, t2, t3⟩ := hr i b r' hb hr'
      exact ⟨t1, t2, by rw [upd_ne t2]; exact s2 _ _ t3⟩
    · rw [List.getElem?_append_right hi] at hb
      rw [List.getElem?_append_right (by omega)] at hr'
      have e0 : i - bs.length = 0 := by
        cases e : i - bs.length with
        | zero => rfl
        | succ n => rw [e] at hb; simp at hb
      rw [← hl] at hr'
      rw [e0] at hb hr'
      cases Option.some.inj hb
      cases Option.some.inj hr'
      exact ⟨s1.free np, npD, by rw [upd_ne npD]; exact hp⟩
theorem lesserF_le : ∀ {w : List Int}, Small w → (lesserF w).length ≤ 10 ^ w.length
  | [], _ => by decide
  | n :: w, h => by
    have hn := h n List.mem_cons_self
    have ih := lesserF_le (w := w) fun x hx => h x (List.mem_cons_of_mem _ hx)
    rw [lesserF_length_cons, List.length_cons, Nat.pow_succ, Nat.mul_comm]
    exact Nat.mul_le_mul ih (by omega)
theorem lesserF_le4 {w : List Int} (h : Small w) (h4 : w.length ≤ 4) : (lesserF w).length ≤ 10000 :=
  Nat.le_trans (lesserF_le h) (Nat.le_trans (Nat.pow_le_pow_right (by decide) h4) (by decide))
def sp_lesser (K : PySem.W.Frag) : Sp := fun vs H Q _ => ∃ (a : Addr) (ws : List Int), vs = [.ref a] ∧ SqL K H a (ws.map V.int) ∧ ws.length ≤ 4 ∧ Small ws ∧
  ∀ H' p, Same H H' → H p = none → Made H p H' (lesserF ws) → Q (.ref p) H'
section
variable {P : Program} {w : World} {K : PySem.W.Frag} {mg : Str → Option Value} {base : Heap}
theorem ok_lesser {f : Addr} {fd : FuncData} {k : Nat} (M : Names mg) (D : Def K mg "lesser" s_lesser ["want"] f fd) : FnOk P w K mg base CX0 (k + 1) f fd ["want"] (sp_lesser K) := by
  refine D.F.ok sc_lesser (fun vs H Q E h => ?_) (fun cdv A outer s H vs Q E hr h => ?_)
  · obtain ⟨a, ws, rfl, _⟩ := h
    rfl
  · obtain ⟨a, ws, rfl, ha, h4, sm, q⟩ := h
    refine ⟨_, (pss_cons (ps_set (i := 1) sc_lesser.nd rfl (Or.inl rfl) (pe_lst (pa_cons (pe_lst pa_nil) pa_nil)))
  (pss_cons (ps_for PassesOwn.never rfl (pi_list (pv 0)) (pg_name (i := 2) sc_lesser.nd rfl (Or.inr rfl))
   (pss_one (ps_setLc2 (i := 1) (own := [("start", 3), ("less", 4)]) (vs1 := [4]) (by rfl) sc_lesser.nd rfl rfl (sw_true rfl rfl rfl (by decide +kernel)) (pi_list (pv 1)) (blkOk_by (own := [("start", 3), ("less", 4)]) (N := N_lesser) (sc := defScope s_lesser) (by decide +kernel)) (by decide) (fun _ _ _ _ _ => (pg_name (i := 3) sc_lesser.nd rfl (Or.inl rfl))) (fun _ _ _ _ _ => pts_nil) (fun _ _ _ _ _ => (pi_range1 (by rfl) M.range (pa_cons (pe_op op_add (pv 2) pe_int) pa_nil))) (fun _ _ _ _ _ => (pg_name (i := 4) sc_lesser.nd rfl (Or.inl rfl))) (fun _ _ _ _ _ => pts_nil) (fun _ _ _ _ _ => (pe_op op_cat (pv 3) (pe_lst (pa_cons (pv 4) pa_nil)))))))
  (pss_one (ps_ret (pv 1))))), ?_⟩
    refine ⟨Nat.zero_le _, fun z nz => ⟨by show 1 ≤ sizeLine; decide, fun b nb => ?_⟩⟩
    have nzb : z ≠ b := ne_of_none upd_same nb
    have s1 : Same H (upd H z (.lst [])) := same_upd nz
    have s2 : Same H (upd (upd H z (.lst [])) b (.lst [.ref z])) := s1.trans (same_upd nb)
    refine ⟨_, rfl, a, rfl, ⟨_, s2.seq ha⟩, for_list (xs := ws.map V.int) (fun i σ H' => ∃ p y2, σ = [some (.ref a), some (.ref p), y2, none, none] ∧ Same H H' ∧ H p = none ∧ Made H p H' (lesserF (ws.take i))) ⟨b, none, rfl, s2, s1.free nb, [z], upd_same, rfl, by simp, fun i b' r hb hr => ?_⟩ (fun i σ H' _ hp => ?_) (fun i x σ H1 hx hp => ?_) (fun σ H' hp => ?_)⟩
    · cases i with
      | succ i => simp at hb
      | zero =>
        cases Option.some.inj hb
        cases Option.some.inj hr
        exact ⟨nz, nzb, by rw [upd_ne nzb]; exact upd_same⟩
    · obtain ⟨p, y2, _, s3, _⟩ := hp
      exact s3.seq ha
    · obtain ⟨p, y2, rfl, s3, np, as, hp, hal, nd, hrows⟩ := hp
      obtain ⟨n, hn, rfl⟩ := of_get_ints hx
      have bn := sm n (List.mem_of_getElem? hn)
      have etk := take_succ_at hn
      have smk : Small (ws.take (i + 1)) := fun x hx => sm x (List.mem_of_mem_take hx)
      have big : (lesserF (ws.take (i + 1))).length ≤ 10000 := lesserF_le4 smk (by rw [List.length_take]; omega)
      rw [etk, lesserF_snoc] at big
      generalize hrs : lesserF (ws.take i) = rs at hal hrows big
      have blen : ∀ j, ((rs.take j).flatMap fun s => (upto n).map fun l => s ++ [l]).length = min j rs.length * (n + 1).toNat := fun j => by
        rw [flatMap_const_length _ _ (n + 1).toNat (fun a _ => by rw [List.length_map, upto_length]), List.length_take]
      rw [flatMap_const_length _ _ (n + 1).toNat (fun a _ => by rw [List.length_map, upto_length])] at big
      refine ⟨_, rfl, p, rfl, ⟨_, SqL.of hp⟩, fun L nL => ?_⟩
      have nLH : H L = none := s3.free nL
      refine ⟨fun j m H' => m = as.length - j ∧ j ≤ as.length ∧ Same H1 H' ∧ Made H1 L H' ((rs.take j).flatMap fun s => (upto n).map fun l => s ++ [l]), ⟨_, rfl, Nat.zero_le _, same_upd nL, [], upd_same, rfl, by simp, fun j b' r hb => by simp at hb⟩, fun j m H2 hW => ?_⟩
      obtain ⟨rfl, hj, s4, md⟩ := hW
      have hA : SqL K H2 p (as.map V.ref) := SqL.of (s4 _ _ hp)
      by_cases hjl : j < as.length
      · obtain ⟨c, hc⟩ : ∃ c, as[j]? = some c := ⟨as[j], List.getElem?_eq_getElem hjl⟩
        obtain ⟨r, hr⟩ : ∃ r, rs[j]? = some r := ⟨rs[j]'(by omega), List.getElem?_eq_getElem (by omega)⟩
        have gc : (as.map V.ref)[j]? = some (.ref c) := by rw [List.getElem?_map, hc]; rfl
        obtain ⟨nc, ncp, hcr⟩ := hrows j c r hc hr
        have hc2 := s4 _ _ hcr
        refine .inr ⟨⟨_, _, hA, gc⟩, fun H' => Same H1 H' ∧ Made H1 L H' ((rs.take (j + 1)).flatMap fun s => (upto n).map fun l => s ++ [l]), fun H' hN => ⟨_, by omega, rfl, by omega, hN⟩, fun x H3 hy => ?_⟩
        obtain ⟨rfl, fy⟩ := hy
        have ex : x = .ref c := Option.some.inj ((fy _ hA).symm.trans gc)
        subst ex
        refine ⟨rfl, _, rfl, _, _, rfl, rfl, _, rfl, by omega, by omega, fun t m' H' => m' = (n + 1).toNat - t ∧ t ≤ (n + 1).toNat ∧ Same H1 H' ∧ H' c = some (LI r) ∧ Made H1 L H' (((rs.take j).flatMap fun s => (upto n).map fun l => s ++ [l]) ++ ((upto n).take t).map fun l => r ++ [l]), ⟨_, rfl, Nat.zero_le _, s4, hc2, ?_⟩, fun t m' H4 hW1 => ?_⟩
        · rw [List.take_zero, List.map_nil, List.append_nil]
          exact md
        · obtain ⟨rfl, ht, s5, hc5, md5⟩ := hW1
          by_cases htl : t < (n + 1).toNat
          · refine .inr ⟨htl, fun H' => Same H1 H' ∧ H' c = some (LI r) ∧ Made H1 L H' (((rs.take j).flatMap fun s => (upto n).map fun l => s ++ [l]) ++ ((upto n).take (t + 1)).map fun l => r ++ [l]), fun H' hN => ⟨_, by omega, rfl, htl, hN⟩, fun x H5 hy => ?_⟩
            obtain ⟨rfl, rfl⟩ := hy
            refine ⟨rfl, _, rfl, _, rfl, by show 1 ≤ sizeLine; decide, fun u nu => ?_⟩
            have ncu : c ≠ u := ne_of_none hc5 nu
            have hc6 : upd H5 u (.lst [.int (0 + (t : Int))]) c = some (LI r) := by rw [upd_ne ncu]; exact hc5
            have hrl : r.length ≤ 4 := by
              have z := lesserF_len (w := ws.take i) (r := r) (by rw [hrs]; exact List.mem_of_getElem? hr)
              rw [z, List.length_take]
              omega
            refine ⟨c, u, _, _, rfl, rfl, hc6, upd_same, szL (by rw [List.length_map]; show r.length + 1 ≤ _; omega), fun v nv => ?_⟩
            have s6 : Same H5 (upd (upd H5 u (.lst [.int (0 + (t : Int))])) v (.lst (r.map V.int ++ [.int (0 + (t : Int))]))) := (same_upd nu).trans (same_upd nv)
            have nv5 : H5 v = none := (same_upd nu).free nv
            obtain ⟨acc, ha1, ha2, ha3⟩ := md5.snoc (r := r ++ [(0 + (t : Int))]) s5 s6 nv5 (by rw [upd_same, li_app])
            refine ⟨acc, ha1, szL' ?_, ?_, ?_, ?_⟩
            · rw [ha2, List.length_append, blen, List.length_map, List.length_take, upto_length]
              have m1 : min j rs.length = j := by omega
              have m2 : min t (n + 1).toNat ≤ 10 := by omega
              have m3 : j * (n + 1).toNat ≤ rs.length * (n + 1).toNat := Nat.mul_le_mul_right _ (by omega)
              rw [m1]
              omega
            · refine sm_new (s5.trans s6) nL
            · have ncL : c ≠ L := ne_of_none hcr nL
              rw [upd_ne ncL]
              exact s6 _ _ hc5
            · have e2 : (upto n).take (t + 1) = (upto n).take t ++ [(0 + (t : Int))] := take_succ_at (by rw [upto_get htl, Int.zero_add])
              rw [e2, List.map_append, ← List.append_assoc]
              exact ha3
          · have et : t = (n + 1).toNat := by omega
            refine .inl ⟨by show (n + 1).toNat ≤ t; omega, s5, ?_⟩
            have e2 : (upto n).take t = upto n := List.take_of_length_le (by rw [upto_length]; omega)
            rw [e2] at md5
            rw [take_succ_at hr, List.flatMap_append]
            simpa using md5
      · have ej : j = as.length := by omega
        refine .inl ⟨⟨_, hA, by rw [List.length_map]; omega⟩, ?_⟩
        rw [List.take_of_length_le (by omega)] at md
        refine ⟨L, _, rfl, s3.trans s4, nLH, ?_⟩
        rw [etk, lesserF_snoc, hrs]
        obtain ⟨bs, m1, m2, m3, m4⟩ := md
        exact ⟨bs, m1, m2, m3, fun i b r hb hr => ⟨s3.free (m4 i b r hb hr).1, (m4 i b r hb hr).2⟩⟩
    · obtain ⟨p, y2, rfl, s3, np, md⟩ := hp
      rw [List.length_map, List.take_length] at md
      exact ⟨_, rfl, q H' p s3 np md⟩
end
/-! ### tables through calls -/
theorem tabG_same {H H' : Hp} {T : Addr} (s : Same H H') (h : GxR.TabG H T) : GxR.TabG H' T := by
  obtain ⟨ps, h1, h2⟩ := h
  exact ⟨ps, s _ _ h1, h2⟩
theorem tabG_but {H H' : Hp} {T d : Addr} {xs : List V} (s : SameBut d H H') (hd : H d = some (.lst xs)) (h : GxR.TabG H T) : GxR.TabG H' T := by
  obtain ⟨ps, h1, h2⟩ := h
  exact ⟨ps, s _ _ (ne_of h1 hd (fun z => nomatch z)) h1, h2⟩
theorem tabbed_lst {H H' : Hp} {T a : Addr} {xs : List V} (t : GxR.Tabbed T H H') (hT : GxR.TabG H T) (h : H a = some (.lst xs)) : H' a = some (.lst xs) := by
  obtain ⟨ps, h1, h2⟩ := hT
  rw [t.2 a (ne_of h h1 (fun z => nomatch z))]
  exact h
theorem draw4 (x : Int) : ∃ m : Nat, 1 ≤ m ∧ m ≤ 4 ∧ 1 + x % 4 = (m : Int) := ⟨(1 + x % 4).toNat, by omega, by omega, by omega⟩
/-! ### a heap without one address; what is kept apart from tables -/
def cutH (d : Addr) (H : Hp) : Hp := fun b => if b = d then none else H b
section
variable {d : Addr} {H H' : Hp}
theorem cut_at {b : Addr} (h : b ≠ d) : cutH d H b = H b := if_neg h
theorem cut_put {b : Addr} {o : HO} (h : b ≠ d) (e : H b = some o) : cutH d H b = some o := by rw [cut_at h]; exact e
theorem cut_some {b : Addr} {o : HO} (h : cutH d H b = some o) : b ≠ d ∧ H b = some o := by
  unfold cutH at h
  by_cases e : b = d
  · rw [if_pos e] at h
    cases h
  · rw [if_neg e] at h
    exact ⟨e, h⟩
theorem cut_same (s : SameBut d H H') : Same (cutH d H) (cutH d H') := fun b o h => by
  obtain ⟨n, e⟩ := cut_some h
  exact cut_put n (s b o n e)
theorem cut_le : Same (cutH d H) H := fun _ _ h => (cut_some h).2
theorem cut_upd {u : Addr} {o : HO} (h : u ≠ d) : cutH d (upd H u o) = upd (cutH d H) u o := by
  funext b
  by_cases e : b = d
  · rw [e, upd_ne (fun z => h z.symm)]
    unfold cutH
    rw [if_pos rfl, if_pos rfl]
  · rw [cut_at e]
    by_cases e2 : b = u
    · rw [e2, upd_same, upd_same]
    · rw [upd_ne e2, upd_ne e2, cut_at e]
/-- all but tables stay -/
def Ke (H H' : Hp) : Prop := ∀ b o, H b = some o → (∀ ps, o ≠ .tbl ps) → H' b = some o
theorem Ke.refl (H : Hp) : Ke H H := fun _ _ e _ => e
theorem Ke.trans {H1 H2 : Hp} (a : Ke H H1) (b : Ke H1 H2) : Ke H H2 := fun c o e n => b c o (a c o e n) n
theorem Ke.of (s : Same H H') : Ke H H' := fun b o e _ => s b o e
theorem Ke.cut (a : Ke H H') : Ke (cutH d H) (cutH d H') := fun b o e n => by
  obtain ⟨n1, e1⟩ := cut_some e
  exact cut_put n1 (a b o e1 n)
theorem Ke.lst (a : Ke H H') {p : Addr} {xs : List V} (h : H p = some (.lst xs)) : H' p = some (.lst xs) := a _ _ h fun _ z => nomatch z
theorem Ke.tup (a : Ke H H') {p : Addr} {xs : List V} (h : H p = some (.tup xs)) : H' p = some (.tup xs) := a _ _ h fun _ z => nomatch z
theorem Ext.ke {T : List Addr} (e : Ext T H H') : Ke H H' := e.ext
theorem tb_same {T : List Addr} (s : Same H H') (h : Tb T H) : Tb T H' := fun t ht => tabG_same s (h t ht)
theorem tb_but {T : List Addr} {xs : List V} (s : SameBut d H H') (hd : H d = some (.lst xs)) (h : Tb T H) : Tb T H' := fun t ht => tabG_but s hd (h t ht)
theorem TiersAt.ke (e : Ke H H') {a : Addr} {ts : List (Int × Int)} (h : TiersAt H a ts) : TiersAt H' a ts := by
  obtain ⟨us, h1, h2, h3⟩ := h
  exact ⟨us, e.lst h1, h2, fun i u t a b => e.tup (h3 i u t a b)⟩
theorem OfrAt.ke (e : Ke H H') {a : Addr} : ∀ {o : Ofr}, OfrAt H a o → OfrAt H' a o
  | .pack c p, ⟨b, h1, h2⟩ => ⟨b, e.tup h1, e.lst h2⟩
  | .many c ts, ⟨b, t, h1, h2, h3⟩ => ⟨b, t, e.tup h1, e.lst h2, h3.ke e⟩
  | .add c p k, ⟨b, h1, h2⟩ => ⟨b, e.tup h1, e.lst h2⟩
theorem ShopAt.ke (e : Ke H H') {a : Addr} {os : List Ofr} (h : ShopAt H a os) : ShopAt H' a os := by
  obtain ⟨vs, h1, h2, h3⟩ := h
  exact ⟨vs, e.lst h1, h2, fun i v o a b => (h3 i v o a b).ke e⟩
theorem TiersAt.same (s : Same H H') {a : Addr} {ts : List (Int × Int)} (h : TiersAt H a ts) : TiersAt H' a ts := h.ke (.of s)
/-- a tier more -/
theorem TiersAt.push {F u : Addr} {ts : List (Int × Int)} {t : Int × Int} (h : TiersAt H F ts) (nu : H u = none) : ∃ xs, H F = some (.lst xs) ∧ xs.length = ts.length ∧ TiersAt (upd (upd H u (.tup [.int t.1, .int t.2])) F (.lst (xs ++ [.ref u]))) F (ts ++ [t]) := by
  obtain ⟨us, h1, h2, h3⟩ := h
  refine ⟨_, h1, by rw [List.length_map]; exact h2, us ++ [u], ?_, by rw [List.length_append, List.length_append, h2]; rfl, fun i v t' hv ht => ?_⟩
  · rw [upd_same, List.map_append]
    rfl
  · by_cases z : i < us.length
    · rw [List.getElem?_append_left z] at hv
      rw [List.getElem?_append_left (by omega)] at ht
      have e := h3 i v t' hv ht
      rw [upd_ne (ne_of e h1 (fun z => nomatch z)), upd_ne (ne_of_none e nu)]
      exact e
    · rw [List.getElem?_append_right (by omega)] at hv
      rw [List.getElem?_append_right (by omega)] at ht
      rw [← h2] at ht
      have ei : i - us.length = 0 := by
        rcases Nat.eq_zero_or_pos (i - us.length) with z | z
        · exact z
        · rw [List.getElem?_eq_none (by rw [List.length_singleton]; omega)] at hv
          cases hv
      rw [ei] at hv ht
      cases Option.some.inj hv
      cases Option.some.inj ht
      rw [upd_ne (fun z => by rw [z, h1] at nu; cases nu), upd_same]
end
/-! ### offers within bounds -/
def PriceT (ts : List (Int × Int)) : Prop := ∀ t ∈ ts, 0 ≤ t.2 ∧ t.2 < 1000000000000
theorem cut_off {d : Addr} {H : Hp} {o : HO} : cutH d (upd H d o) = cutH d H := by
  funext b
  by_cases e : b = d
  · unfold cutH
    rw [if_pos e, if_pos e]
  · rw [cut_at e, cut_at e, upd_ne e]
theorem cut_mono {d : Addr} {H H' : Hp} (s : Same H H') : Same (cutH d H) (cutH d H') := cut_same (.of s)
theorem TiersAt.cut {H : Hp} {S t : Addr} {ts : List (Int × Int)} {xs : List V} (h : TiersAt H t ts) (n : t ≠ S) (hS : H S = some (.lst xs)) : TiersAt (cutH S H) t ts := by
  obtain ⟨us, h1, h2, h3⟩ := h
  refine ⟨us, cut_put n h1, h2, fun i u t a b => ?_⟩
  have e := h3 i u t a b
  exact cut_put (ne_of e hS (fun z => nomatch z)) e
def FitO (m : Nat) : Ofr → Prop
  | .pack c p => c.length = m ∧ Small c ∧ 0 ≤ p ∧ p < 1000000000000
  | .many c ts => c.length = m ∧ Small c ∧ PriceT ts
  | .add c p _ => c.length = m ∧ Small c ∧ 0 ≤ p ∧ p < 1000000000000
def FitS (m : Nat) (os : List Ofr) : Prop := ∀ o ∈ os, FitO m o
theorem FitO.cont {m : Nat} : ∀ {o : Ofr}, FitO m o → o.cont.length = m ∧ Small o.cont
  | .pack _ _, h => ⟨h.1, h.2.1⟩
  | .many _ _, h => ⟨h.1, h.2.1⟩
  | .add _ _ _, h => ⟨h.1, h.2.1⟩
theorem FitS.fit {m : Nat} {os : List Ofr} (hm : m ≤ 4) (h : FitS m os) : Fit os := fun o ho => by
  refine ⟨?_, fun c p k e => ?_⟩
  · have := (h o ho).cont.1
    omega
  · subst e
    have := h _ ho
    exact ⟨by have := this.2.2.1; omega, by have := this.2.2.2; omega⟩
theorem FitS.push {m : Nat} {os : List Ofr} {o : Ofr} (h : FitS m os) (ho : FitO m o) : FitS m (os ++ [o]) := fun x hx => by
  rcases List.mem_append.mp hx with z | z
  · exact h x z
  · rw [List.mem_singleton.mp z]
    exact ho
theorem GoodO.mono {os : List Ofr} {i : Nat} {x : Ofr} : ∀ {o : Ofr}, GoodO os i o → GoodO (os ++ [x]) i o
  | .pack _ _, _ => True.intro
  | .many _ _, h => h
  | .add _ _ _, ⟨j, e, hj, c, p, h⟩ => ⟨j, e, hj, c, p, by rw [List.getElem?_append_left (List.getElem?_eq_some_iff.mp h).1]; exact h⟩
theorem Good.push {os : List Ofr} {o : Ofr} (h : Good os) (h8 : os.length < 8) (ho : GoodO os os.length o) : Good (os ++ [o]) := by
  refine ⟨by rw [List.length_append, List.length_singleton]; omega, fun i x hx => ?_⟩
  by_cases z : i < os.length
  · rw [List.getElem?_append_left z] at hx
    exact (h.2 i x hx).mono
  · have hi := (List.getElem?_eq_some_iff.mp hx).1
    rw [List.length_append, List.length_singleton] at hi
    have ei : i = os.length := by omega
    rw [List.getElem?_append_right (by omega), ei, Nat.sub_self] at hx
    cases Option.some.inj hx
    rw [ei]
    exact ho.mono
/-! ### lines as data -/
abbrev dInts (ns : List Int) : PyData := .list (ns.map PyData.int)
def dLine (l : Ln) : PyData := .tuple [.int l.p, .int l.c, dInts l.as]
abbrev dLines (ls : List Ln) : PyData := .list (ls.map dLine)
theorem LineAt.dp {K : PySem.W.Frag} {H : Hp} {a : Addr} {l : Ln} (h : LineAt H a l) : Dp K H (.ref a) (dLine l) := by
  obtain ⟨b, h1, h2⟩ := h
  exact .tup (SqT.of h1) (.cons (.int _) (.cons (.int _) (.cons (dp_ints (SqL.of h2)) .nil)))
theorem LineAt.same {H H' : Hp} (s : Same H H') {a : Addr} {l : Ln} (h : LineAt H a l) : LineAt H' a l := by
  obtain ⟨b, h1, h2⟩ := h
  exact ⟨b, s _ _ h1, s _ _ h2⟩
theorem LineAt.ke {H H' : Hp} (s : Ke H H') {a : Addr} {l : Ln} (h : LineAt H a l) : LineAt H' a l := by
  obtain ⟨b, h1, h2⟩ := h
  exact ⟨b, s.tup h1, s.lst h2⟩
theorem dp_lines {K : PySem.W.Frag} {H : Hp} : ∀ {as : List Addr} {ls : List Ln}, Al (LineAt H) as ls → DpAll K H (as.map V.ref) (ls.map dLine)
  | [], [], _ => .nil
  | [], _ :: _, h => h.elim
  | _ :: _, [], h => h.elim
  | _ :: _, _ :: _, h => .cons h.1.dp (dp_lines h.2)
theorem lay_line (l : Ln) : PyData.canLay0 (dLine l) = true := by
  have := lay_ints l.as
  simp [dLine, PyData.canLayAll0, PyData.canLay0, this]
theorem depth_line (l : Ln) : PyData.depth (dLine l) ≤ 2 := by
  have := depth_ints l.as
  simp only [dLine, PyData.depth, PyData.depthAll, this]
  decide
theorem lay_lines : ∀ ls : List Ln, PyData.canLayAll0 (ls.map dLine) = true
  | [] => by simp [PyData.canLayAll0]
  | l :: r => by
    have ih := lay_lines r
    have h1 := lay_line l
    simp [PyData.canLayAll0, ih, h1]
theorem depth_lines : ∀ ls : List Ln, PyData.depthAll (ls.map dLine) ≤ 2
  | [] => by simp [PyData.depthAll]
  | l :: r => by
    have ih := depth_lines r
    have h1 := depth_line l
    simp only [List.map_cons, PyData.depthAll]
    omega
theorem shaped_lines (ls : List Ln) : SeqAt.shaped (dLines ls) = true := by
  unfold SeqAt.shaped
  have h1 : PyData.canLay0 (dLines ls) = true := by
    simp only [PyData.canLay0]
    exact lay_lines ls
  have h2 : PyData.depth (dLines ls) ≤ 64 := by
    have := depth_lines ls
    simp only [PyData.depth]
    omega
  rw [h1, decide_eq_true h2]
  rfl
theorem shaped_line (l : Ln) : SeqAt.shaped (dLine l) = true := by
  unfold SeqAt.shaped
  have h2 : PyData.depth (dLine l) ≤ 64 := Nat.le_trans (depth_line l) (by decide)
  rw [lay_line l, decide_eq_true h2]
  rfl
theorem linesAtM_p {os : List Ofr} {i : Nat} {l : Ln} (h : l ∈ linesAtM os i) : l.p = (i : Int) := by
  unfold linesAtM at h
  split at h
  · obtain ⟨c, _, rfl⟩ := List.mem_map.mp h
    rfl
  · obtain ⟨c, _, rfl⟩ := List.mem_map.mp h
    rfl
  · cases h
theorem flat_one {α : Type} (X : List α) (p : Nat) : ∀ n : Nat, (List.range n).flatMap (fun i => if i = p then X else []) = if p < n then X else []
  | 0 => by simp
  | n + 1 => by
    rw [List.range_succ, List.flatMap_append, flat_one X p n, List.flatMap_singleton]
    by_cases h1 : p < n
    · rw [if_pos h1, if_neg (by omega), if_pos (by omega), List.append_nil]
    · rw [if_neg h1, List.nil_append]
      by_cases h2 : n = p
      · rw [if_pos h2, if_pos (by omega)]
      · rw [if_neg h2, if_neg (by omega)]
theorem lines_filter {os : List Ofr} {p : Nat} (h : p < os.length) : (linesM os).filter (fun l => decide (l.p = (p : Int))) = linesAtM os p := by
  unfold linesM
  rw [List.filter_flatMap]
  have e : ∀ i : Nat, (linesAtM os i).filter (fun l => decide (l.p = (p : Int))) = if i = p then linesAtM os p else [] := fun i => by
    by_cases z : i = p
    · rw [if_pos z, z, List.filter_eq_self]
      exact fun l hl => decide_eq_true (linesAtM_p hl)
    · rw [if_neg z, List.filter_eq_nil_iff]
      intro l hl
      have := linesAtM_p hl
      rw [decide_eq_true_eq]
      omega
  rw [show (fun i => (linesAtM os i).filter (fun l => decide (l.p = (p : Int)))) = fun i => if i = p then linesAtM os p else [] from funext e, flat_one, if_pos h]
/-! ### the tier of a count -/
def stepT (q : Int → Prop) [DecidablePred q] (ts : List (Int × Int)) (e : Int) : Int := ts.foldl (fun e t => if q t.1 then t.2 else e) e
theorem stepT_none {q : Int → Prop} [DecidablePred q] : ∀ {ts : List (Int × Int)} {e : Int}, (∀ t ∈ ts, ¬ q t.1) → stepT q ts e = e
  | [], _, _ => rfl
  | t :: r, e, h => by
    show stepT q r (if q t.1 then t.2 else e) = e
    rw [if_neg (h t List.mem_cons_self)]
    exact stepT_none fun t ht => h t (List.mem_cons_of_mem _ ht)
theorem stepT_split (c : Int) : ∀ (ts : List (Int × Int)) (e : Int), ts.Pairwise (fun a b => a.1 < b.1) → stepT (· = c) ts (stepT (· ≤ c - 1) ts e) = stepT (· ≤ c) ts e
  | [], _, _ => rfl
  | t :: r, e, h => by
    obtain ⟨h1, h2⟩ := List.pairwise_cons.mp h
    show stepT (· = c) r (if t.1 = c then t.2 else stepT (· ≤ c - 1) r (if t.1 ≤ c - 1 then t.2 else e)) = stepT (· ≤ c) r (if t.1 ≤ c then t.2 else e)
    by_cases z1 : t.1 ≤ c - 1
    · rw [if_pos z1, if_neg (by omega), if_pos (by omega)]
      exact stepT_split c r t.2 h2
    · rw [if_neg z1]
      by_cases z2 : t.1 = c
      · rw [if_pos z2, if_pos (by omega), stepT_none (q := (· = c)) fun x hx => by have := h1 x hx; omega, stepT_none (q := (· ≤ c)) fun x hx => by have := h1 x hx; omega]
      · rw [if_neg z2, if_neg (by omega)]
        exact stepT_split c r e h2
theorem pieceM_step (c : Int) : ∀ (ts : List (Int × Int)) (e : Int), (pieceL ts c).getLastD e = stepT (· ≤ c) ts e
  | [], _ => rfl
  | t :: r, e => by
    show _ = stepT (· ≤ c) r (if t.1 ≤ c then t.2 else e)
    rw [← pieceM_step c r]
    unfold pieceL
    by_cases z : t.1 ≤ c
    · rw [if_pos z, List.filter_cons_of_pos (p := fun t : Int × Int => decide (t.1 ≤ c)) (decide_eq_true z), List.map_cons, List.getLastD_cons]
    · rw [if_neg z, List.filter_cons_of_neg (by rw [decide_eq_true_eq]; exact z)]
theorem GoodT.pair {ts : List (Int × Int)} (h : GoodT ts) : ts.Pairwise (fun a b => a.1 < b.1) := by
  have step : ∀ (n i : Nat) (a b : Int × Int), ts[i]? = some a → ts[i + (n + 1)]? = some b → a.1 < b.1 := by
    intro n
    induction n with
    | zero => exact fun i a b ha hb => h.rise i a b ha hb
    | succ n ih =>
      intro i a b ha hb
      have hl := (List.getElem?_eq_some_iff.mp hb).1
      have g := List.getElem?_eq_getElem (show i + (n + 1) < ts.length by omega)
      have h1 := ih i a _ ha g
      have h2 := h.rise (i + (n + 1)) _ b g hb
      omega
  rw [List.pairwise_iff_getElem]
  intro i j hi hj hij
  have := step (j - i - 1) i ts[i] ts[j] (List.getElem?_eq_getElem hi) (by rw [show i + (j - i - 1 + 1) = j by omega]; exact List.getElem?_eq_getElem hj)
  exact this
theorem GoodT.ge1 {ts : List (Int × Int)} (h : GoodT ts) : ∀ t ∈ ts, 1 ≤ t.1 := fun t ht => by
  obtain ⟨i, hi, rfl⟩ := List.getElem_of_mem ht
  have e0 := h.one _ (List.getElem?_eq_getElem (show 0 < ts.length by omega))
  rcases Nat.eq_zero_or_pos i with z | z
  · subst z
    omega
  · have := List.pairwise_iff_getElem.mp h.pair 0 i (by omega) hi z
    omega
theorem pieceM_zero {ts : List (Int × Int)} (h : GoodT ts) : pieceM ts 0 = 0 := by
  unfold pieceM
  rw [pieceM_step]
  exact stepT_none fun t ht => by have := h.ge1 t ht; omega
theorem pieceM_succ {ts : List (Int × Int)} (h : GoodT ts) (c : Int) : stepT (· = c) ts (pieceM ts (c - 1)) = pieceM ts c := by
  unfold pieceM
  rw [pieceM_step, pieceM_step]
  exact stepT_split c ts 0 h.pair
theorem stepT_take {q : Int → Prop} [DecidablePred q] {ts : List (Int × Int)} {i : Nat} {t : Int × Int} {e : Int} (h : ts[i]? = some t) : stepT q (ts.take (i + 1)) e = if q t.1 then t.2 else stepT q (ts.take i) e := by
  unfold stepT
  rw [take_succ_at h, List.foldl_append]
  rfl
/-! ### shops made of offers -/
theorem ShopAt.of_al {H : Hp} {a : Addr} {vs : List Addr} {os : List Ofr} (h : H a = some (.lst (vs.map V.ref))) (al : Al (OfrAt H) vs os) : ShopAt H a os := by
  refine ⟨vs, h, al.len, fun i v o hv ho => ?_⟩
  obtain ⟨x, hx, r⟩ := al.get hv
  rw [ho] at hx
  cases Option.some.inj hx
  exact r
theorem TiersAt.of_al {H : Hp} {a : Addr} {us : List Addr} {ts : List (Int × Int)} (h : H a = some (.lst (us.map V.ref))) (al : Al (fun u (t : Int × Int) => H u = some (.tup [.int t.1, .int t.2])) us ts) : TiersAt H a ts := by
  refine ⟨us, h, al.len, fun i v o hv ho => ?_⟩
  obtain ⟨x, hx, r⟩ := al.get hv
  rw [ho] at hx
  cases Option.some.inj hx
  exact r
theorem ShopAt.al {H : Hp} {a : Addr} {os : List Ofr} (h : ShopAt H a os) : ∃ vs : List Addr, H a = some (.lst (vs.map V.ref)) ∧ Al (OfrAt H) vs os := by
  obtain ⟨vs, h1, h2, h3⟩ := h
  refine ⟨vs, h1, ?_⟩
  clear h1
  induction vs generalizing os with
  | nil =>
    cases os with
    | nil => exact True.intro
    | cons o r => simp at h2
  | cons v vr ih =>
    cases os with
    | nil => simp at h2
    | cons o r => exact ⟨h3 0 v o rfl rfl, ih (by simpa using h2) fun i v o hv ho => h3 (i + 1) v o hv ho⟩
theorem goodT_one (p : Int) : GoodT [(1, p)] := by
  refine ⟨by show 1 ≤ 1; decide, by show 1 ≤ 4; decide, fun t e => ?_, fun t ht => ?_, fun i a b ha hb => by simp at hb⟩
  · cases Option.some.inj e
    rfl
  · rw [List.mem_singleton.mp ht]
    show (1 : Int) ≤ 12
    decide
/-! ### lines of a good shop -/
theorem choices_mem : ∀ {ps c : List Int}, c ∈ choicesM ps → c.length ≤ ps.length ∧ ∀ x ∈ c, x ∈ ps
  | [], c, h => by
    rw [List.mem_singleton.mp h]
    exact ⟨Nat.le_refl _, fun x hx => by cases hx⟩
  | p :: ps, c, h => by
    rcases List.mem_append.mp h with h | h
    · rcases List.mem_append.mp h with h | h
      · rw [List.mem_singleton.mp h]
        exact ⟨Nat.zero_le _, fun x hx => by cases hx⟩
      · obtain ⟨d, hd, rfl⟩ := List.mem_map.mp h
        obtain ⟨h1, h2⟩ := choices_mem hd
        refine ⟨by rw [List.length_cons, List.length_cons]; omega, fun x hx => ?_⟩
        rcases List.mem_cons.mp hx with rfl | hx
        · exact List.mem_cons_self
        · exact List.mem_cons_of_mem _ (h2 x hx)
    · obtain ⟨h1, h2⟩ := choices_mem (List.mem_of_mem_tail h)
      exact ⟨by rw [List.length_cons]; omega, fun x hx => List.mem_cons_of_mem _ (h2 x hx)⟩
theorem adds_mem {os : List Ofr} {p : Int} {n : Nat} {x : Int} (h : x ∈ addsN os p n) : ∃ j : Nat, x = (j : Int) ∧ j < n ∧ ∃ c pr, os[j]? = some (.add c pr p) := by
  obtain ⟨j, hj, rfl⟩ := List.mem_map.mp h
  obtain ⟨h1, h2⟩ := List.mem_filter.mp hj
  refine ⟨j, rfl, List.mem_range.mp h1, ?_⟩
  unfold isAdd at h2
  split at h2
  · rename_i c pr k e
    have := of_decide_eq_true h2
    subst this
    exact ⟨c, pr, e⟩
  · cases h2
theorem linesAt_ok {os : List Ofr} (gd : Good os) {p : Nat} {l : Ln} (h : l ∈ linesAtM os p) : LineOk os l := by
  unfold linesAtM at h
  split at h
  · rename_i c pr e
    obtain ⟨ch, hch, rfl⟩ := List.mem_map.mp h
    obtain ⟨h1, h2⟩ := choices_mem hch
    have h8 := gd.1
    have hl := addsN_len os (p : Int) os.length
    refine ⟨p, rfl, .inr ⟨c, pr, e, rfl, ?_, fun x hx => ?_⟩⟩
    · have h1' : ch.length ≤ (addsN os (p : Int) os.length).length := h1
      show ch.length ≤ 8
      omega
    · obtain ⟨j, e1, _, c', pr', e2⟩ := adds_mem (h2 x hx)
      exact ⟨j, e1, c', pr', _, e2⟩
  · rename_i c ts e
    obtain ⟨i, hi, rfl⟩ := List.mem_map.mp h
    have hi' := List.mem_range.mp hi
    exact ⟨p, rfl, .inl ⟨c, ts, e, gd.2 p _ e, by show (1 : Int) ≤ 1 + (i : Nat); omega, by show (1 : Int) + (i : Nat) ≤ 12; omega, rfl⟩⟩
  · cases h
theorem lines_ok {os : List Ofr} (gd : Good os) {l : Ln} (h : l ∈ linesM os) : LineOk os l := by
  obtain ⟨p, _, hp⟩ := List.mem_flatMap.mp h
  exact linesAt_ok gd hp
/-- m numbers from nought on -/
def V0 (m : Nat) (c : List Int) : Prop := c.length = m ∧ ∀ x ∈ c, 0 ≤ x
theorem tog_nonneg : ∀ {a b : List Int}, (∀ x ∈ a, 0 ≤ x) → (∀ x ∈ b, 0 ≤ x) → ∀ x ∈ togM a b, 0 ≤ x
  | [], _, _, _, x, h => by simp [togM] at h
  | _ :: _, [], _, _, x, h => by simp [togM] at h
  | a :: r, b :: q, ha, hb, x, h => by
    have h' : x ∈ (a + b) :: togM r q := h
    rcases List.mem_cons.mp h' with rfl | h'
    · have h1 := ha a List.mem_cons_self
      have h2 := hb b List.mem_cons_self
      omega
    · exact tog_nonneg (fun y hy => ha y (List.mem_cons_of_mem _ hy)) (fun y hy => hb y (List.mem_cons_of_mem _ hy)) x h'
theorem V0.tog {m : Nat} {a b : List Int} (ha : V0 m a) (hb : V0 m b) : V0 m (togM a b) := ⟨by rw [togM_len, ha.1, hb.1]; exact Nat.min_self m, tog_nonneg ha.2 hb.2⟩
theorem FitO.v0 {m : Nat} {o : Ofr} (h : FitO m o) : V0 m o.cont := ⟨h.cont.1, fun x hx => (h.cont.2 x hx).1⟩
theorem V0.fold {m : Nat} {α : Type} {f : α → List Int} : ∀ {ls : List α} {acc : List Int}, V0 m acc → (∀ l ∈ ls, V0 m (f l)) → V0 m (ls.foldl (fun acc l => togM acc (f l)) acc)
  | [], _, h, _ => h
  | l :: r, acc, h, hl => V0.fold (ls := r) (h.tog (hl l List.mem_cons_self)) fun x hx => hl x (List.mem_cons_of_mem _ hx)
theorem cont_v0 {m : Nat} {os : List Ofr} {l : Ln} (ft : FitS m os) (lok : LineOk os l) : V0 m (contM os l) := by
  obtain ⟨p, ep, ways⟩ := lok
  unfold contM
  rcases ways with ⟨c, ts, w1, w0, w2, w3, w4⟩ | ⟨c, pr, w1, w2, w3, w4⟩
  · have hf := (ft _ (List.mem_of_getElem? w1)).v0
    refine V0.fold ⟨?_, fun x hx => ?_⟩ (fun x hx => by rw [w4] at hx; cases hx)
    · rw [List.length_map, ep, contAt_get w1]
      exact hf.1
    · rw [ep, contAt_get w1] at hx
      obtain ⟨y, hy, rfl⟩ := List.mem_map.mp hx
      exact Int.mul_nonneg (by omega) (hf.2 y hy)
  · have hf := (ft _ (List.mem_of_getElem? w1)).v0
    refine V0.fold ⟨?_, fun x hx => ?_⟩ (fun x hx => ?_)
    · rw [List.length_map, ep, contAt_get w1]
      exact hf.1
    · rw [ep, contAt_get w1] at hx
      obtain ⟨y, hy, rfl⟩ := List.mem_map.mp hx
      exact Int.mul_nonneg (by omega) (hf.2 y hy)
    · obtain ⟨j, rfl, c', pr', k, hj⟩ := w4 x hx
      rw [contAt_get hj]
      exact (ft _ (List.mem_of_getElem? hj)).v0
/-! ### least prices, as lists -/
/-- what a line holds and costs -/
abbrev Rw := List Int × Int
def sumC (q : List Rw) (i : Nat) : Int := (q.map fun r => hadM r.1 i).sum
def costM (q : List Rw) : Int := (q.map (·.2)).sum
def CovM (q : List Rw) (w : List Int) : Prop := ∀ (i : Nat) (n : Int), w[i]? = some n → n ≤ sumC q i
def SubM (q ps : List Rw) : Prop := ∀ r ∈ q, r ∈ ps
def LeastIs (ps : List Rw) (w : List Int) : Option Int → Prop
  | none => ∀ q, SubM q ps → ¬ CovM q w
  | some p => (∃ q, SubM q ps ∧ CovM q w ∧ costM q = p) ∧ ∀ q, SubM q ps → CovM q w → p ≤ costM q
def NN (ps : List Rw) : Prop := ∀ r ∈ ps, (∀ x ∈ r.1, 0 ≤ x) ∧ 0 ≤ r.2
theorem leastIs_unique {ps : List Rw} {w : List Int} : ∀ {a b : Option Int}, LeastIs ps w a → LeastIs ps w b → a = b
  | none, none, _, _ => rfl
  | none, some p, h, ⟨⟨q, h1, h2, _⟩, _⟩ => absurd h2 (h q h1)
  | some p, none, ⟨⟨q, h1, h2, _⟩, _⟩, h => absurd h2 (h q h1)
  | some p, some p', ⟨⟨q, h1, h2, h3⟩, h4⟩, ⟨⟨q', k1, k2, k3⟩, k4⟩ => by
    have := h4 q' k1 k2
    have := k4 q h1 h2
    congr 1
    omega
theorem had_nonneg {c : List Int} (h : ∀ x ∈ c, 0 ≤ x) (i : Nat) : 0 ≤ hadM c i := by
  by_cases z : i < c.length
  · exact h _ (List.mem_of_getElem? (hadM_in z))
  · rw [hadM_out z]
    exact Int.le_refl _
theorem sumC_cons (r : Rw) (q : List Rw) (i : Nat) : sumC (r :: q) i = hadM r.1 i + sumC q i := by
  unfold sumC
  rw [List.map_cons, List.sum_cons]
theorem sumC_app (a b : List Rw) (i : Nat) : sumC (a ++ b) i = sumC a i + sumC b i := by
  unfold sumC
  rw [List.map_append, List.sum_append]
theorem costM_cons (r : Rw) (q : List Rw) : costM (r :: q) = r.2 + costM q := by
  unfold costM
  rw [List.map_cons, List.sum_cons]
theorem costM_app (a b : List Rw) : costM (a ++ b) = costM a + costM b := by
  unfold costM
  rw [List.map_append, List.sum_append]
theorem sumC_nonneg : ∀ {q : List Rw}, (∀ r ∈ q, ∀ x ∈ r.1, 0 ≤ x) → ∀ i, 0 ≤ sumC q i
  | [], _, i => by simp [sumC]
  | r :: q, h, i => by
    have h1 := had_nonneg (h r List.mem_cons_self) i
    have h2 := sumC_nonneg (q := q) (fun s hs => h s (List.mem_cons_of_mem _ hs)) i
    rw [sumC_cons]
    omega
theorem costM_nonneg : ∀ {q : List Rw}, (∀ r ∈ q, 0 ≤ r.2) → 0 ≤ costM q
  | [], _ => by simp [costM]
  | r :: q, h => by
    have h1 := h r List.mem_cons_self
    have h2 := costM_nonneg (q := q) (fun s hs => h s (List.mem_cons_of_mem _ hs))
    rw [costM_cons]
    omega
theorem leastIs_zero {ps : List Rw} {w : List Int} (nn : NN ps) (h : ∀ x ∈ w, x ≤ 0) : LeastIs ps w (some 0) := by
  refine ⟨⟨[], (fun r hr => nomatch hr), fun i n hn => ?_, rfl⟩, fun q hq _ => costM_nonneg fun r hr => (nn r (hq r hr)).2⟩
  have := h n (List.mem_of_getElem? hn)
  show n ≤ 0
  exact this
/-- a line ahead: what it leaves is to be covered by the others -/
theorem cov_cons {r : Rw} {q : List Rw} {w : List Int} (h : CovM q (restM w r.1)) : CovM (r :: q) w := fun i n hn => by
  have := h i _ (restM_get (cs := r.1) hn)
  rw [sumC_cons]
  split at this <;> omega
theorem cov_rest {r : Rw} {q : List Rw} {w : List Int} (hq : ∀ i, 0 ≤ sumC q i) (h : CovM (r :: q) w) : CovM q (restM w r.1) := fun i n hn => by
  have hi : i < w.length := by
    have := (List.getElem?_eq_some_iff.mp hn).1
    rw [restM_len] at this
    exact this
  have e := List.getElem?_eq_getElem hi
  have h1 := h i _ e
  rw [restM_get e] at hn
  have h2 := hq i
  rw [sumC_cons] at h1
  have := Option.some.inj hn
  split at this <;> omega
theorem cov_mid {r : Rw} {a b : List Rw} {w : List Int} (h : CovM (a ++ r :: b) w) : CovM (r :: (a ++ b)) w := fun i n hn => by
  have := h i n hn
  rw [sumC_app, sumC_cons] at this
  rw [sumC_cons, sumC_app]
  omega
/-- of what covers wants that are not noughts one line takes something away -/
theorem some_helps {q : List Rw} {w : List Int} {i : Nat} {n : Int} (hn : w[i]? = some n) (hp : 0 < n) (h : CovM q w) : ∃ r ∈ q, restM w r.1 ≠ w := by
  refine Classical.byContradiction fun no => ?_
  have all : ∀ r ∈ q, hadM r.1 i = 0 ∨ hadM r.1 i < 0 := fun r hr => by
    have e : restM w r.1 = w := Classical.byContradiction fun z => no ⟨r, hr, z⟩
    have g := restM_get (cs := r.1) hn
    rw [e, hn] at g
    have := Option.some.inj g
    split at this <;> omega
  have le : ∀ q : List Rw, (∀ r ∈ q, hadM r.1 i = 0 ∨ hadM r.1 i < 0) → sumC q i ≤ 0 := fun q => by
    induction q with
    | nil => intro _; simp [sumC]
    | cons r q ih =>
      intro h
      have h1 := h r List.mem_cons_self
      have h2 := ih fun s hs => h s (List.mem_cons_of_mem _ hs)
      rw [sumC_cons]
      omega
  have h1 := le q all
  have h2 := h i n hn
  omega
/-- the best of some lines to be bought first -/
def BestOf (ps : List Rw) (w : List Int) (l : List Rw) : Option Int → Prop
  | none => ∀ r ∈ l, restM w r.1 ≠ w → LeastIs ps (restM w r.1) none
  | some p => (∃ r ∈ l, restM w r.1 ≠ w ∧ LeastIs ps (restM w r.1) (some (p - r.2))) ∧ ∀ r ∈ l, restM w r.1 ≠ w → ∀ g, LeastIs ps (restM w r.1) (some g) → p ≤ r.2 + g
theorem leastIs_step {ps : List Rw} {w : List Int} {o : Option Int} {i : Nat} {n : Int} (nn : NN ps) (hn : w[i]? = some n) (hp : 0 < n) (hex : ∀ r ∈ ps, restM w r.1 ≠ w → ∃ g, LeastIs ps (restM w r.1) g) (hb : BestOf ps w ps o) : LeastIs ps w o := by
  have key : ∀ q, SubM q ps → CovM q w → ∃ r ∈ ps, restM w r.1 ≠ w ∧ ∃ q', SubM q' ps ∧ CovM q' (restM w r.1) ∧ costM q = r.2 + costM q' := fun q hq hc => by
    obtain ⟨r, hr, hne⟩ := some_helps hn hp hc
    obtain ⟨a, b, rfl⟩ := List.append_of_mem hr
    have hs : SubM (a ++ b) ps := fun s hs => hq s (by
      rcases List.mem_append.mp hs with z | z
      · exact List.mem_append.mpr (.inl z)
      · exact List.mem_append.mpr (.inr (List.mem_cons_of_mem _ z)))
    refine ⟨r, hq r hr, hne, a ++ b, hs, cov_rest (fun j => sumC_nonneg (fun s h => (nn s (hs s h)).1) j) (cov_mid hc), ?_⟩
    rw [costM_app, costM_cons, costM_app]
    omega
  cases o with
  | none =>
    intro q hq hc
    obtain ⟨r, hr, hne, q', h1, h2, _⟩ := key q hq hc
    exact hb r hr hne q' h1 h2
  | some p =>
    obtain ⟨⟨r, hr, hne, ⟨q, h1, h2, h3⟩, _⟩, hle⟩ := hb
    refine ⟨⟨r :: q, fun s hs => ?_, cov_cons h2, by rw [costM_cons, h3]; omega⟩, fun q hq hc => ?_⟩
    · rcases List.mem_cons.mp hs with rfl | hs
      · exact hr
      · exact h1 s hs
    · obtain ⟨r, hr, hne, q', h1, h2, h3⟩ := key q hq hc
      obtain ⟨g, hg⟩ := hex r hr hne
      cases g with
      | none => exact absurd h2 (hg q' h1)
      | some g =>
        have := hle r hr hne g hg
        have := hg.2 q' h1 h2
        omega
/-- a line more that is looked at -/
theorem BestOf.snoc {ps : List Rw} {w : List Int} {l : List Rw} {o : Option Int} {r : Rw} (h : BestOf ps w l o) :
    (restM w r.1 = w → BestOf ps w (l ++ [r]) o) ∧ (LeastIs ps (restM w r.1) none → BestOf ps w (l ++ [r]) o) ∧
    (∀ g, restM w r.1 ≠ w → LeastIs ps (restM w r.1) (some g) → (∀ p, o = some p → r.2 + g < p) → BestOf ps w (l ++ [r]) (some (r.2 + g))) ∧
    (∀ g p, LeastIs ps (restM w r.1) (some g) → o = some p → ¬ r.2 + g < p → BestOf ps w (l ++ [r]) o) := by
  refine ⟨fun e => ?_, fun e => ?_, fun g ne hg lt => ?_, fun g p hg eo nlt => ?_⟩
  · cases o with
    | none =>
      intro s hs hne
      rcases List.mem_append.mp hs with z | z
      · exact h s z hne
      · rw [List.mem_singleton.mp z] at hne
        exact absurd e hne
    | some p =>
      obtain ⟨⟨s, hs, h1⟩, h2⟩ := h
      refine ⟨⟨s, List.mem_append.mpr (.inl hs), h1⟩, fun s hs hne => ?_⟩
      rcases List.mem_append.mp hs with z | z
      · exact h2 s z hne
      · rw [List.mem_singleton.mp z] at hne
        exact absurd e hne
  · cases o with
    | none =>
      intro s hs hne
      rcases List.mem_append.mp hs with z | z
      · exact h s z hne
      · rw [List.mem_singleton.mp z]
        exact e
    | some p =>
      obtain ⟨⟨s, hs, h1⟩, h2⟩ := h
      refine ⟨⟨s, List.mem_append.mpr (.inl hs), h1⟩, fun s hs hne g hg => ?_⟩
      rcases List.mem_append.mp hs with z | z
      · exact h2 s z hne g hg
      · rw [List.mem_singleton.mp z] at hg
        exact absurd (leastIs_unique e hg) (fun z => nomatch z)
  · refine ⟨⟨r, List.mem_append.mpr (.inr List.mem_cons_self), ne, by rw [show r.2 + g - r.2 = g by omega]; exact hg⟩, fun s hs hne g' hg' => ?_⟩
    rcases List.mem_append.mp hs with z | z
    · cases o with
      | none => exact absurd (leastIs_unique (h s z hne) hg') (fun z => nomatch z)
      | some p =>
        have := lt p rfl
        have := h.2 s z hne g' hg'
        omega
    · rw [List.mem_singleton.mp z] at hg' ⊢
      have := Option.some.inj (leastIs_unique hg hg')
      omega
  · subst eo
    obtain ⟨⟨s, hs, h1⟩, h2⟩ := h
    refine ⟨⟨s, List.mem_append.mpr (.inl hs), h1⟩, fun s hs hne g' hg' => ?_⟩
    rcases List.mem_append.mp hs with z | z
    · exact h2 s z hne g' hg'
    · rw [List.mem_singleton.mp z] at hg' ⊢
      have := Option.some.inj (leastIs_unique hg hg')
      omega
/-! ### what the least prices of wants have to do with each other -/
theorem least_mono {ps : List Rw} {w w' : List Int} {p : Int} {o : Option Int} (hle : ∀ (i : Nat) (n : Int), w'[i]? = some n → ∃ m, w[i]? = some m ∧ n ≤ m) (h : LeastIs ps w (some p)) (h' : LeastIs ps w' o) : ∃ p', o = some p' ∧ p' ≤ p := by
  obtain ⟨⟨q, h1, h2, h3⟩, _⟩ := h
  have hc : CovM q w' := fun i n hn => by
    obtain ⟨m, hm, le⟩ := hle i n hn
    have := h2 i m hm
    omega
  cases o with
  | none => exact absurd hc (h' q h1)
  | some p' => exact ⟨p', rfl, by rw [← h3]; exact h'.2 q h1 hc⟩
theorem least_sum {ps : List Rw} {w a b : List Int} {pa pb : Int} {o : Option Int} (hs : ∀ (i : Nat) (n : Int), w[i]? = some n → ∃ x y, a[i]? = some x ∧ b[i]? = some y ∧ n ≤ x + y) (ha : LeastIs ps a (some pa)) (hb : LeastIs ps b (some pb)) (h : LeastIs ps w o) : ∃ p, o = some p ∧ p ≤ pa + pb := by
  obtain ⟨⟨q, h1, h2, h3⟩, _⟩ := ha
  obtain ⟨⟨q', k1, k2, k3⟩, _⟩ := hb
  have hq : SubM (q ++ q') ps := fun r hr => by
    rcases List.mem_append.mp hr with z | z
    · exact h1 r z
    · exact k1 r z
  have hc : CovM (q ++ q') w := fun i n hn => by
    obtain ⟨x, y, hx, hy, le⟩ := hs i n hn
    have := h2 i x hx
    have := k2 i y hy
    rw [sumC_app]
    omega
  cases o with
  | none => exact absurd hc (h _ hq)
  | some p =>
    refine ⟨p, rfl, ?_⟩
    have := h.2 _ hq hc
    rw [costM_app] at this
    omega
theorem least_more {ps ps' : List Rw} {w : List Int} {p : Int} {o : Option Int} (hs : SubM ps ps') (h : LeastIs ps w (some p)) (h' : LeastIs ps' w o) : ∃ p', o = some p' ∧ p' ≤ p := by
  obtain ⟨⟨q, h1, h2, h3⟩, _⟩ := h
  have hq : SubM q ps' := fun r hr => hs r (h1 r hr)
  cases o with
  | none => exact absurd h2 (h' q hq)
  | some p' => exact ⟨p', rfl, by rw [← h3]; exact h'.2 q hq h2⟩
def dearM (t : Int) (r : Rw) : Rw := (r.1, t * r.2)
theorem sumC_dear (t : Int) : ∀ (q : List Rw) (i : Nat), sumC (q.map (dearM t)) i = sumC q i
  | [], _ => rfl
  | r :: q, i => by
    rw [List.map_cons, sumC_cons, sumC_cons, sumC_dear t q i]
    rfl
theorem costM_dear (t : Int) : ∀ (q : List Rw), costM (q.map (dearM t)) = t * costM q
  | [] => by simp [costM]
  | r :: q => by
    rw [List.map_cons, costM_cons, costM_cons, costM_dear t q, Int.mul_add]
    rfl
theorem dear_sub {t : Int} {ps : List Rw} : ∀ {q : List Rw}, SubM q (ps.map (dearM t)) → ∃ q', SubM q' ps ∧ q = q'.map (dearM t)
  | [], _ => ⟨[], (fun r hr => nomatch hr), rfl⟩
  | r :: q, h => by
    obtain ⟨q', h1, h2⟩ := dear_sub (q := q) fun s hs => h s (List.mem_cons_of_mem _ hs)
    obtain ⟨s, hs, e⟩ := List.mem_map.mp (h r List.mem_cons_self)
    refine ⟨s :: q', fun x hx => ?_, by rw [List.map_cons, e, h2]⟩
    rcases List.mem_cons.mp hx with rfl | hx
    · exact hs
    · exact h1 x hx
theorem least_dear {ps : List Rw} {w : List Int} {t : Int} (ht : 0 < t) : ∀ {o : Option Int}, LeastIs ps w o → LeastIs (ps.map (dearM t)) w (o.map (t * ·))
  | none, h => fun q hq hc => by
    obtain ⟨q', h1, rfl⟩ := dear_sub hq
    exact h q' h1 fun i n hn => by have := hc i n hn; rw [sumC_dear] at this; exact this
  | some p, ⟨⟨q, h1, h2, h3⟩, h4⟩ => by
    refine ⟨⟨q.map (dearM t), fun r hr => ?_, fun i n hn => by rw [sumC_dear]; exact h2 i n hn, by rw [costM_dear, h3]⟩, fun q hq hc => ?_⟩
    · obtain ⟨s, hs, rfl⟩ := List.mem_map.mp hr
      exact List.mem_map.mpr ⟨s, h1 s hs, rfl⟩
    · obtain ⟨q', k1, rfl⟩ := dear_sub hq
      rw [costM_dear]
      exact Int.mul_le_mul_of_nonneg_left (h4 q' k1 fun i n hn => by have := hc i n hn; rw [sumC_dear] at this; exact this) (by omega)
/-! ### priced_lines -/
abbrev s_priced_lines : Stmt := topS 18
abbrev N_priced_lines : List Str := ["shop", "line"]
theorem sc_priced_lines : FnScope N_priced_lines ["shop"] (defScope s_priced_lines) := ⟨rfl, rfl, rfl, by decide +kernel, rfl, by decide +kernel, by decide +kernel⟩

/-- a line, what it holds and what it costs -/
abbrev PR := Ln × Rw
def prowM (os : List Ofr) (l : Ln) : PR := (l, (contM os l, priceM os l))
def prowsM (os : List Ofr) : List PR := (linesM os).map (prowM os)
def PRowF (H0 H : Hp) (a : Addr) (x : PR) : Prop := ∃ la ca, H a = some (.tup [.ref la, .ref ca, .int x.2.2]) ∧ LineF H0 H la x.1 ∧ H ca = some (LI x.2.1) ∧ H0 a = none ∧ H0 ca = none
theorem LineF.ke {H0 H H' : Hp} (e : Ke H H') {a : Addr} {l : Ln} (h : LineF H0 H a l) : LineF H0 H' a l := by
  obtain ⟨b, h1, h2, h3⟩ := h
  exact ⟨b, e.tup h1, e.lst h2, h3⟩
theorem PRowF.ke {H0 H H' : Hp} (e : Ke H H') {a : Addr} {x : PR} (h : PRowF H0 H a x) : PRowF H0 H' a x := by
  obtain ⟨la, ca, h1, h2, h3, h4⟩ := h
  exact ⟨la, ca, e.tup h1, h2.ke e, e.lst h3, h4⟩
def PricedF (H0 H : Hp) (q : Addr) (xs : List PR) : Prop := ∃ as : List Addr, H q = some (.lst (as.map V.ref)) ∧ Al (PRowF H0 H) as xs
theorem PricedF.toF {H0 H : Hp} {q : Addr} {xs : List PR} (h : PricedF H0 H q xs) : PricedF H0 H q xs := h
def sp_priced_lines (T : List Addr) : Sp := fun vs H Q _ => ∃ (a : Addr) (os : List Ofr), vs = [.ref a] ∧ ShopAt H a os ∧ Good os ∧ Fit os ∧ Tb T H ∧ ∀ H' q, Ext T H H' → H q = none → PricedF H H' q (prowsM os) → Q (.ref q) H'
section
variable {P : Program} {w : World} {K : PySem.W.Frag} {mg : Str → Option Value} {base : Heap} {T : List Addr}
theorem ok_priced_lines {f f1 f2 f3 f4 f5 f6 f7 f8 f9 f10 f11 f12 c t c' t' : Addr} {fd fd1 fd2 fd3 fd4 fd5 fd6 fd7 fd8 fd9 fd10 fd11 fd12 : FuncData} {k : Nat} (M : Names mg) (D : Def K mg "priced_lines" s_priced_lines ["shop"] f fd) (D_lines : Def K mg "lines" s_lines ["shop"] f9 fd9) (D_look : Def K mg "look" s_look ["shop"] f1 fd1) (D_can_stand : Def K mg "can_stand" s_can_stand ["shop", "at"] f2 fd2) (D_names_pack : Def K mg "names_pack" s_names_pack ["shop", "at"] f3 fd3) (D_good_tiers : Def K mg "good_tiers" s_good_tiers ["tiers"] f4 fd4)
    (hc : fd4.code = .ref c) (TB : GxR.TabB base mg c t) (ht : t ∈ T) (D_lines_at : Def K mg "lines_at" s_lines_at ["shop", "place"] f10 fd10) (D_adds_to : Def K mg "adds_to" s_adds_to ["shop", "place"] f11 fd11) (D_choices : Def K mg "choices" s_choices ["places"] f12 fd12) (D_content_of : Def K mg "content_of" s_content_of ["shop", "line"] f5 fd5) (D_together : Def K mg "together" s_together ["content", "other"] f6 fd6) (D_price_of : Def K mg "price_of" s_price_of ["shop", "line"] f7 fd7) (hc' : fd7.code = .ref c') (TB' : GxR.TabB base mg c' t') (ht' : t' ∈ T) (D_piece_price : Def K mg "piece_price" s_piece_price ["tiers", "count"] f8 fd8) : FnOk P w K mg base CX0 (k + 5) f fd ["shop"] (sp_priced_lines T) := by
  have G_lines : FnOk P w K mg base CX0 (k + 4) f9 fd9 ["shop"] (sp_lines T) := ok_lines M D_lines D_look D_can_stand D_names_pack D_good_tiers hc TB ht D_lines_at D_adds_to D_choices
  have G_content_of : FnOk P w K mg base CX0 (k + 4) f5 fd5 ["shop", "line"] sp_content_of := ok_content_of M D_content_of D_together
  have G_price_of : FnOk P w K mg base CX0 (k + 4) f7 fd7 ["shop", "line"] (sp_price_of T) := ok_price_of M D_price_of hc' TB' ht' D_piece_price
  refine D.F.ok sc_priced_lines (fun vs H Q E h => ?_) (fun cdv A outer s H vs Q E hr h => ?_)
  · obtain ⟨a, os, rfl, _⟩ := h
    rfl
  · obtain ⟨a, os, rfl, hS, gd, fit, hT, q⟩ := h
    refine ⟨_, (pss_one (ps_ret (pe_lc (own := [("line", 1)]) (by rfl) sc_priced_lines.nd (pi_list (pe_call G_lines hr (by rfl) D_lines.g D_lines.F.kp D_lines.b .nil pass0 (pa_cons (pv 0) pa_nil))) (blkOk_by (own := [("line", 1)]) (N := N_priced_lines) (sc := defScope s_priced_lines) (by decide +kernel)) (fun _ _ _ _ _ => (pg_name (i := 1) sc_priced_lines.nd rfl (Or.inl rfl))) (fun _ _ _ _ _ => pts_nil) (fun _ _ _ _ _ => (pe_tup (pa_cons (pv 1) (pa_cons (pe_call G_content_of hr (by rfl) D_content_of.g D_content_of.F.kp D_content_of.b .nil pass0 (pa_cons (pv 0) (pa_cons (pv 1) pa_nil))) (pa_cons (pe_call G_price_of hr (by rfl) D_price_of.g D_price_of.F.kp D_price_of.b .nil pass0 (pa_cons (pv 0) (pa_cons (pv 1) pa_nil))) pa_nil)))))))), ?_⟩
    refine ⟨_, rfl, a, os, rfl, hS, gd, hT, fun H1 L e1 nL hL => ?_⟩
    obtain ⟨as, hLl, alF⟩ := hL
    have lal := alF.len
    have tot : (linesM os).length ≤ 2048 := by
      have := linesN_len gd.1 os.length
      have h8 := gd.1
      unfold linesM
      omega
    have hl2 : (prowsM os).length = as.length := by
      unfold prowsM
      rw [List.length_map, lal]
    refine ⟨L, rfl, ⟨_, SqL.of hLl⟩, fun B nB => lc_list (xs := as.map V.ref) (fun j H' => Ext T H1 H' ∧ ∃ rs : List Addr, H' B = some (.lst (rs.map V.ref)) ∧ Al (PRowF H (cutH B H')) rs ((prowsM os).take j)) ⟨.same (same_upd nB) e1.t1, [], upd_same, True.intro⟩ (fun j H' _ hp => SqL.of (hp.1.lst hLl)) (fun j x H3 hx hp => ?_) (fun H3 hp => ?_)⟩
    · obtain ⟨e3, rs, hB, all⟩ := hp
      rw [List.getElem?_map] at hx
      cases hu : as[j]? with
      | none => rw [hu] at hx; cases hx
      | some u =>
        rw [hu] at hx
        cases Option.some.inj hx
        obtain ⟨l, hl, hlf⟩ := alF.get hu
        have lk := lines_ok gd (List.mem_of_getElem? hl)
        have e13 := e1.trans e3
        refine ⟨rfl, _, rfl, _, rfl, _, rfl, a, u, os, l, rfl, hS.ext e13, hlf.at.ext e3, lk, fit, fun H4 c4 s4 nc4 hc4 => ?_⟩
        have e4 := e3.trans (.same s4 e3.t1)
        refine ⟨_, rfl, _, rfl, a, u, os, l, rfl, hS.ext (e1.trans e4), hlf.at.ext e4, lk, fit, e4.t1, fun H5 e5 => ⟨by show 3 ≤ sizeLine; decide, fun tt ntt => ?_⟩⟩
        have e35 : Ext T H3 H5 := (Ext.same s4 e3.t1).trans e5
        have hB5 := e35.lst hB
        have ntB : tt ≠ B := fun z => by rw [z, hB5] at ntt; cases ntt
        have ncB : c4 ≠ B := fun z => by rw [z, hB] at nc4; cases nc4
        have hc5 := e5.lst hc4
        have st := same_upd (o := .tup [.ref u, .ref c4, .int (priceM os l)]) ntt
        have lrs := all.len
        rw [List.length_take, hl2] at lrs
        have nuB : ∀ b, H1 b ≠ none → b ≠ B := fun b hb z => hb (by rw [z]; exact nB)
        have e1t : Ext T H1 (upd H5 tt (.tup [.ref u, .ref c4, .int (priceM os l)])) := (e4.trans e5).trans (.same st (e4.trans e5).t1)
        refine ⟨_, st _ _ hB5, szL' (by rw [List.length_map]; omega), e1t.new nB, rs ++ [tt], ?_, ?_⟩
        · rw [upd_same, List.map_append]
          rfl
        · have hpr : (prowsM os)[j]? = some (prowM os l) := by
            unfold prowsM
            rw [List.getElem?_map, hl]
            rfl
          rw [take_succ_at hpr, cut_off]
          refine Al.app (all.imp fun r x h => h.ke ((e35.ke.trans (.of st)).cut)) (.one ⟨u, c4, cut_put ntB upd_same, ?_, cut_put ncB (st _ _ hc5), ?_, e13.free _ nc4⟩)
          · obtain ⟨b, k1, k2, k3, k4⟩ := hlf
            have k1' := e1t.tup k1
            have k2' := e1t.lst k2
            exact ⟨b, cut_put (nuB _ (by rw [k1]; exact fun z => nomatch z)) k1', cut_put (nuB _ (by rw [k2]; exact fun z => nomatch z)) k2', k3, k4⟩
          · exact e1.free _ ((e4.trans e5).free _ ntt)
    · obtain ⟨e3, rs, hB, all⟩ := hp
      rw [List.length_map, List.take_of_length_le (by omega)] at all
      exact q H3 B (e1.trans e3) (e1.free _ nB) ⟨rs, hB, all.imp fun r x h => h.ke (.of cut_le)⟩
end
/-! ### best_step, all_steps -/
abbrev s_best_step : Stmt := topS 24
abbrev N_best_step : List Str := ["less", "priced", "steps", "best", "row", "behind", "line", "content", "price"]
theorem sc_best_step : FnScope N_best_step ["less", "priced", "steps"] (defScope s_best_step) := ⟨rfl, rfl, rfl, by decide +kernel, rfl, by decide +kernel, by decide +kernel⟩

abbrev s_all_steps : Stmt := topS 25
abbrev N_all_steps : List Str := ["priced", "want", "steps", "less"]
theorem sc_all_steps : FnScope N_all_steps ["priced", "want"] (defScope s_all_steps) := ⟨rfl, rfl, rfl, by decide +kernel, rfl, by decide +kernel, by decide +kernel⟩

def keyW (w : List Int) : List Key := w.map Sum.inl
theorem keyW_kV (w : List Int) : (keyW w).map kV = w.map V.int := by
  unfold keyW
  rw [List.map_map]
  rfl
theorem keyW_inj : ∀ {a b : List Int}, keyW a = keyW b → a = b
  | [], [], _ => rfl
  | [], _ :: _, e => by cases e
  | _ :: _, [], e => by cases e
  | x :: a, y :: b, e => by
    have e' : (Sum.inl x : Key) :: keyW a = Sum.inl y :: keyW b := e
    injection e' with e1 e2
    rw [keyW_inj e2, Sum.inl.inj e1]
theorem valV_zip {κ : Type} [DecidableEq κ] : ∀ {ks : List κ} {vs : List V} {i : Nat} {k : κ} {v : V}, ks.Nodup → ks[i]? = some k → vs[i]? = some v → valV (ks.zip vs) k = some v
  | [], _, _, _, _, _, h, _ => by simp at h
  | _ :: _, [], _, _, _, _, _, h => by simp at h
  | a :: r, b :: q, 0, k, v, nd, h, h2 => by
    cases Option.some.inj h
    cases Option.some.inj h2
    exact valV_pos (p := (a, b)) rfl
  | a :: r, b :: q, i + 1, k, v, nd, h, h2 => by
    have n1 := (List.nodup_cons.mp nd).1
    have ne : ¬ a = k := fun z => n1 (z ▸ List.mem_of_getElem? (show r[i]? = some k from h))
    rw [List.zip_cons_cons, valV_neg (p := (a, b)) ne]
    exact valV_zip (List.nodup_cons.mp nd).2 (show r[i]? = some k from h) (show q[i]? = some v from h2)
theorem valV_zip_none {κ : Type} [DecidableEq κ] : ∀ {ks : List κ} {vs : List V} {k : κ}, k ∉ ks → valV (ks.zip vs) k = none
  | [], _, _, _ => rfl
  | _ :: _, [], _, _ => rfl
  | a :: r, b :: q, k, h => by
    have ne : ¬ a = k := fun z => h (by rw [← z]; exact List.mem_cons_self)
    rw [List.zip_cons_cons, valV_neg (p := (a, b)) ne]
    exact valV_zip_none fun z => h (List.mem_cons_of_mem _ z)
def PRowAt (H : Hp) (a : Addr) (x : PR) : Prop := ∃ la ca, H a = some (.tup [.ref la, .ref ca, .int x.2.2]) ∧ LineAt H la x.1 ∧ H ca = some (LI x.2.1)
theorem PRowF.at {H0 H : Hp} {a : Addr} {x : PR} (h : PRowF H0 H a x) : PRowAt H a x := by
  obtain ⟨la, ca, h1, h2, h3, _⟩ := h
  exact ⟨la, ca, h1, h2.at, h3⟩
theorem PRowAt.ke {H H' : Hp} (e : Ke H H') {a : Addr} {x : PR} (h : PRowAt H a x) : PRowAt H' a x := by
  obtain ⟨la, ca, h1, h2, h3⟩ := h
  exact ⟨la, ca, e.tup h1, h2.ke e, e.lst h3⟩
abbrev rwsM (xs : List PR) : List Rw := xs.map (·.2)
/-- no row ahead of i is as good -/
def FirstR (xs : List PR) (w : List Int) (p : Int) (i : Nat) : Prop := ∀ (j : Nat) (y : PR), j < i → xs[j]? = some y → restM w y.2.1 ≠ w → ¬ LeastIs (rwsM xs) (restM w y.2.1) (some (p - y.2.2))
theorem first_of {ps : List Rw} {w : List Int} {l : List Rw} {o : Option Int} {s : Int} (h : BestOf ps w l o) (lt : ∀ p, o = some p → s < p) : ∀ y ∈ l, restM w y.1 ≠ w → ¬ LeastIs ps (restM w y.1) (some (s - y.2)) := fun y hy ne li => by
  cases o with
  | none => exact absurd (leastIs_unique (h y hy ne) li) (fun z => nomatch z)
  | some p =>
    have h1 := lt p rfl
    have h2 := h.2 y hy ne _ li
    omega
/-- the purchase that the table's steps lead to -/
inductive PathM (xs : List PR) : List Int → List PR → Prop
  | done {w : List Int} (h : anyI w = false) : PathM xs w []
  | step {w : List Int} {i : Nat} {x : PR} {p : Int} {ys : List PR} (h : anyI w = true) (li : LeastIs (rwsM xs) w (some p)) (hx : xs[i]? = some x) (ne : restM w x.2.1 ≠ w) (lr : LeastIs (rwsM xs) (restM w x.2.1) (some (p - x.2.2))) (fr : FirstR xs w p i) (t : PathM xs (restM w x.2.1) ys) : PathM xs w (x :: ys)
theorem PathM.unique {xs : List PR} {w : List Int} {ys zs : List PR} (h : PathM xs w ys) (k : PathM xs w zs) : ys = zs := by
  induction h generalizing zs with
  | done h =>
    cases k with
    | done _ => rfl
    | step h' => rw [h] at h'; cases h'
  | step h li hx ne lr fr t ih =>
    cases k with
    | done h' => rw [h] at h'; cases h'
    | @step _ j x' p' ys' h' li' hx' ne' lr' fr' t' =>
      have ep := Option.some.inj (leastIs_unique li li')
      subst ep
      rename_i i x p ys
      have eij : i = j := by
        rcases Nat.lt_trichotomy i j with z | z | z
        · exact absurd lr (fr' i x z hx ne)
        · exact z
        · exact absurd lr' (fr j x' z hx' ne')
      subst eij
      rw [hx] at hx'
      cases Option.some.inj hx'
      rw [ih t']
/-- what the table says of wants -/
def StepV (H : Hp) (as : List Addr) (xs : List PR) (w : List Int) (v : V) : Prop :=
  (v = .non ∧ LeastIs (rwsM xs) w none) ∨ ∃ (b : Addr) (p : Int), v = .ref b ∧ LeastIs (rwsM xs) w (some p) ∧
    ((anyI w = false ∧ H b = some (.tup [.int p, .non])) ∨ (anyI w = true ∧ ∃ (i : Nat) (r : Addr) (x : PR), as[i]? = some r ∧ xs[i]? = some x ∧ H b = some (.tup [.int p, .ref r]) ∧ restM w x.2.1 ≠ w ∧ LeastIs (rwsM xs) (restM w x.2.1) (some (p - x.2.2)) ∧ FirstR xs w p i))
theorem StepV.ke {H H' : Hp} (e : Ke H H') {as : List Addr} {xs : List PR} {w : List Int} {v : V} (h : StepV H as xs w v) : StepV H' as xs w v := by
  rcases h with h | ⟨b, p, h1, h2, h3⟩
  · exact .inl h
  · refine .inr ⟨b, p, h1, h2, ?_⟩
    rcases h3 with ⟨k1, k2⟩ | ⟨k1, i, r, x, k2, k3, k4, k5⟩
    · exact .inl ⟨k1, e.tup k2⟩
    · exact .inr ⟨k1, i, r, x, k2, k3, e.tup k4, k5⟩
theorem StepV.least {H : Hp} {as : List Addr} {xs : List PR} {w : List Int} {v : V} (h : StepV H as xs w v) : ∃ o, LeastIs (rwsM xs) w o ∧ (o = none ↔ v = .non) := by
  rcases h with ⟨h1, h2⟩ | ⟨b, p, h1, h2, _⟩
  · exact ⟨none, h2, fun _ => h1, fun _ => rfl⟩
  · exact ⟨some p, h2, (fun z => nomatch z), fun z => by rw [h1] at z; cases z⟩
def StepsAt (H : Hp) (d : Addr) (as : List Addr) (xs : List PR) (W : List (List Int)) : Prop := ∃ vs : List V, H d = some (.dT ((W.map keyW).zip vs)) ∧ vs.length = W.length ∧ ∀ (i : Nat) w v, W[i]? = some w → vs[i]? = some v → StepV H as xs w v
theorem nodup_keyW {W : List (List Int)} (h : W.Nodup) : (W.map keyW).Nodup := by
  rw [List.nodup_iff_pairwise_ne] at h ⊢
  rw [List.pairwise_map]
  exact h.imp fun ne z => ne (keyW_inj z)
theorem mem_keyW {W : List (List Int)} {w : List Int} (h : w ∉ W) : keyW w ∉ W.map keyW := fun z => by
  obtain ⟨u, hu, e⟩ := List.mem_map.mp z
  rw [keyW_inj e] at hu
  exact h hu
theorem StepsAt.ke {H H' : Hp} (e : Ke H H') {d : Addr} {as : List Addr} {xs : List PR} {W : List (List Int)} (h : StepsAt H d as xs W) : StepsAt H' d as xs W := by
  obtain ⟨vs, h1, h2, h3⟩ := h
  exact ⟨vs, e _ _ h1 (fun _ z => nomatch z), h2, fun i w v a b => (h3 i w v a b).ke e⟩
/-- what the dict gives -/
theorem StepsAt.val {H : Hp} {d : Addr} {as : List Addr} {xs : List PR} {W : List (List Int)} (nd : W.Nodup) (h : StepsAt H d as xs W) : ∃ kvs, H d = some (.dT kvs) ∧ (∀ w, w ∉ W → valV kvs (keyW w) = none) ∧ ∀ w, w ∈ W → ∃ v, valV kvs (keyW w) = some v ∧ StepV H as xs w v := by
  obtain ⟨vs, h1, h2, h3⟩ := h
  refine ⟨_, h1, fun w hw => valV_zip_none (mem_keyW hw), fun w hw => ?_⟩
  obtain ⟨i, hi, e⟩ := List.getElem_of_mem hw
  have g1 : W[i]? = some w := by rw [List.getElem?_eq_getElem hi, e]
  have g2 : vs[i]? = some (vs[i]'(by omega)) := List.getElem?_eq_getElem (by omega)
  exact ⟨_, valV_zip (nodup_keyW nd) (by rw [List.getElem?_map, g1]; rfl) g2, h3 i w _ g1 g2⟩
theorem StepsAt.put {H H' : Hp} {d : Addr} {as : List Addr} {xs : List PR} {W : List (List Int)} {w : List Int} {v : V} {kvs : List (List Key × V)} (h : StepsAt H d as xs W) (hn : w ∉ W) (hd : H d = some (.dT kvs)) (e : Ke H H') (hv : StepV H' as xs w v) : StepsAt (upd H' d (.dT (putK kvs (keyW w) v))) d as xs (W ++ [w]) := by
  obtain ⟨vs, h1, h2, h3⟩ := h
  rw [hd] at h1
  injection Option.some.inj h1 with h1
  subst h1
  have e2 : ∀ b o, H' b = some (.tup o) → upd H' d (.dT (putK ((W.map keyW).zip vs) (keyW w) v)) b = some (.tup o) := fun b o z => by
    rw [upd_ne (ne_of z (e _ _ hd (fun _ z => nomatch z)) (fun z => nomatch z))]
    exact z
  have mv2 : ∀ {w' v'}, StepV H' as xs w' v' → StepV (upd H' d (.dT (putK ((W.map keyW).zip vs) (keyW w) v))) as xs w' v' := fun {w' v'} h => by
    rcases h with h | ⟨b, p, h1, h2, h3⟩
    · exact .inl h
    · refine .inr ⟨b, p, h1, h2, ?_⟩
      rcases h3 with ⟨k1, k2⟩ | ⟨k1, i, r, x, k2, k3, k4, k5⟩
      · exact .inl ⟨k1, e2 _ _ k2⟩
      · exact .inr ⟨k1, i, r, x, k2, k3, e2 _ _ k4, k5⟩
  refine ⟨vs ++ [v], ?_, by rw [List.length_append, List.length_append, h2]; rfl, fun i u y hu hy => ?_⟩
  · rw [upd_same, putK_new v (valV_zip_none (mem_keyW hn)), List.map_append, List.zip_append (by rw [List.length_map, h2])]
    rfl
  · by_cases z : i < W.length
    · rw [List.getElem?_append_left z] at hu
      rw [List.getElem?_append_left (by omega)] at hy
      exact mv2 ((h3 i u y hu hy).ke e)
    · rw [List.getElem?_append_right (by omega)] at hu
      rw [List.getElem?_append_right (by omega)] at hy
      rw [h2] at hy
      have ei : i - W.length = 0 := by
        rcases Nat.eq_zero_or_pos (i - W.length) with z | z
        · exact z
        · rw [List.getElem?_eq_none (by rw [List.length_singleton]; omega)] at hu
          cases hu
      rw [ei] at hu hy
      cases Option.some.inj hu
      cases Option.some.inj hy
      exact mv2 hv
def sp_best_step : Sp := fun vs H Q _ => ∃ (la pa d : Addr) (w : List Int) (as : List Addr) (xs : List PR) (W : List (List Int)), vs = [.ref la, .ref pa, .ref d] ∧ H la = some (LI w) ∧ H pa = some (.lst (as.map V.ref)) ∧ Al (PRowAt H) as xs ∧ StepsAt H d as xs W ∧ W.Nodup ∧ NN (rwsM xs) ∧ w.length ≤ 1000 ∧ w ∉ W ∧ (∀ x ∈ rwsM xs, restM w x.1 ≠ w → restM w x.1 ∈ W) ∧ (∃ (i : Nat) (n : Int), w[i]? = some n ∧ 0 < n) ∧ anyI w = true ∧
  ∀ H' v, Same H H' → StepV H' as xs w v → Q v H'
section
variable {P : Program} {w : World} {K : PySem.W.Frag} {mg : Str → Option Value} {base : Heap} {T : List Addr}
/-- what is best so far -/
def BestV (H : Hp) (as : List Addr) (xs : List PR) (w : List Int) (n : Nat) (v : V) : Prop := ∃ o, BestOf (rwsM xs) w ((rwsM xs).take n) o ∧ ((o = none ∧ v = .non) ∨ ∃ (p : Int) (b : Addr), o = some p ∧ v = .ref b ∧ ∃ (i : Nat) (r : Addr) (x : PR), as[i]? = some r ∧ xs[i]? = some x ∧ H b = some (.tup [.int p, .ref r]) ∧ restM w x.2.1 ≠ w ∧ LeastIs (rwsM xs) (restM w x.2.1) (some (p - x.2.2)) ∧ FirstR xs w p i)
theorem BestV.same {H H' : Hp} (s : Same H H') {as : List Addr} {xs : List PR} {w : List Int} {n : Nat} {v : V} (h : BestV H as xs w n v) : BestV H' as xs w n v := by
  obtain ⟨o, h1, h2⟩ := h
  refine ⟨o, h1, ?_⟩
  rcases h2 with h2 | ⟨p, b, k1, k2, i, r, x, k3, k4, k5, k6⟩
  · exact .inl h2
  · exact .inr ⟨p, b, k1, k2, i, r, x, k3, k4, s _ _ k5, k6⟩
theorem ok_best_step {f f1 f2 : Addr} {fd fd1 fd2 : FuncData} {k : Nat} (M : Names mg) (D : Def K mg "best_step" s_best_step ["less", "priced", "steps"] f fd) (D_rest : Def K mg "rest" s_rest ["want", "content"] f1 fd1) (D_had : Def K mg "had" s_had ["content", "thing"] f2 fd2) : FnOk P w K mg base CX0 (k + 3) f fd ["less", "priced", "steps"] sp_best_step := by
  have G_rest : FnOk P w K mg base CX0 (k + 2) f1 fd1 ["want", "content"] (sp_rest K) := ok_rest M D_rest D_had
  refine D.F.ok sc_best_step (fun vs H Q E h => ?_) (fun cdv A outer s H vs Q E hr h => ?_)
  · obtain ⟨la, pa, d, w, as, xs, W, rfl, _⟩ := h
    rfl
  · obtain ⟨la, pa, d, w, as, xs, W, rfl, hla, hpa, al, hst, nd, nn, hwl, hwn, hin, ⟨ip, np, hip, hpos⟩, hany, q⟩ := h
    have lal := al.len
    refine ⟨_, (pss_cons (ps_set (i := 3) sc_best_step.nd rfl (Or.inl rfl) pe_non)
  (pss_cons (ps_for PassesOwn.never rfl (pi_list (pv 1)) (pg_name (i := 4) sc_best_step.nd rfl (Or.inl rfl))
   (pss_cons (ps_asg (pv 4) (pg_tup rfl (pgs_cons (pg_name (i := 6) sc_best_step.nd rfl (Or.inl rfl)) (pgs_cons (pg_name (i := 7) sc_best_step.nd rfl (Or.inl rfl)) (pgs_cons (pg_name (i := 8) sc_best_step.nd rfl (Or.inl rfl)) pgs_nil)))))
  (pss_cons (ps_set (i := 5) sc_best_step.nd rfl (Or.inl rfl) (pe_dget1 (hu_of hr) (pv 2) (pe_tupleOf (by rfl) M.tuple (pe_call G_rest hr (by rfl) D_rest.g D_rest.F.kp D_rest.b .nil pass0 (pa_cons (pv 0) (pa_cons (pv 7) pa_nil)))) ⟨rfl, rfl, rfl, rfl⟩))
  (pss_one (ps_if (PW.pt (pw_and (pt_cmpR op_notN (pv 5) pe_non (nomark _)) (pw_and1 (PW.pt (pw_or (pt_cmpR op_isN (pv 3) pe_non (nomark _)) (pw_or1 (pt_cmpR op_lt (pe_op op_add (pv 8) (pe_ix ix_tup (pv 5) pe_int (fun _ _ => rfl))) (pe_ix ix_tup (pv 3) pe_int (fun _ _ => rfl)) (nomark _))))))))
   (pss_one (ps_set (i := 3) sc_best_step.nd rfl (Or.inl rfl) (pe_tup (pa_cons (pe_op op_add (pv 8) (pe_ix ix_tup (pv 5) pe_int (fun _ _ => rfl))) (pa_cons (pv 4) pa_nil)))))
   pss_nil)))))
  (pss_one (ps_ret (pv 3))))), ?_⟩
    refine ⟨_, rfl, pa, rfl, ⟨_, SqL.of hpa⟩, for_list (K := K) (a := pa) (xs := as.map V.ref) (fun i σ H' => ∃ v y4 y5 y6 y7 y8, σ = [some (.ref la), some (.ref pa), some (.ref d), some v, y4, y5, y6, y7, y8] ∧ Same H H' ∧ BestV H' as xs w i v) ⟨.non, none, none, none, none, none, rfl, fun _ _ e => e, none, fun r hr => by simp at hr, .inl ⟨rfl, rfl⟩⟩ (fun i σ H' _ hp => ?_) (fun i x σ H1 hx hp => ?_) (fun σ H1 hp => ?_)⟩
    · obtain ⟨_, _, _, _, _, _, _, s1, _⟩ := hp
      exact SqL.of (s1 _ _ hpa)
    · obtain ⟨v, y4, y5, y6, y7, y8, rfl, s1, bv⟩ := hp
      rw [List.getElem?_map] at hx
      cases hu : as[i]? with
      | none => rw [hu] at hx; cases hx
      | some u =>
        rw [hu] at hx
        cases Option.some.inj hx
        obtain ⟨x, hxx, lx, cx, hu1, hl1, hc1⟩ := al.get hu
        have hrw : (rwsM xs)[i]? = some x.2 := by rw [List.getElem?_map, hxx]; rfl
        have hmem : x.2 ∈ rwsM xs := List.mem_of_getElem? hrw
        refine ⟨_, rfl, u, _, rfl, SqT.of (s1 _ _ hu1), rfl, _, _, rfl, _, _, rfl, _, _, rfl, rfl, ?_⟩
        obtain ⟨kvs, hkv, hno, hyes⟩ := hst.val nd
        refine ⟨_, rfl, d, rfl, .inr ⟨kvs, .inl (s1 _ _ hkv)⟩, _, rfl, _, rfl, la, cx, w, x.2.1, rfl, SqL.of (s1 _ _ hla), SqL.of (s1 _ _ hc1), hwl, fun H2 r2 s2 nr2 hr2 => ?_⟩
        refine .inl ⟨r2, _, rfl, SqL.of hr2, fun t3 nt3 => ?_⟩
        have s3 := s2.trans (same_upd (o := .tup ((restM w x.2.1).map V.int)) nt3)
        have hkv3 := s3 _ _ (s1 _ _ hkv)
        have ht3 : upd H2 t3 (.tup ((restM w x.2.1).map V.int)) t3 = some (.tup ((keyW (restM w x.2.1)).map kV)) := by rw [upd_same, keyW_kV]
        generalize upd H2 t3 (.tup ((restM w x.2.1).map V.int)) = H3 at s3 hkv3 ht3 ⊢
        refine ⟨_, DGet.t hkv3 ht3, ?_⟩
        have s13 := s1.trans s3
        have bv3 := bv.same s3
        obtain ⟨o, ho, hv⟩ := bv3
        have sn := ho.snoc (r := x.2)
        have etk : (rwsM xs).take (i + 1) = (rwsM xs).take i ++ [x.2] := take_succ_at hrw
        by_cases hne : restM w x.2.1 = w
        · rw [hne, hno w hwn]
          refine ⟨_, rfl, rfl, false, rfl, ?_⟩
          refine ⟨v, _, _, _, _, _, rfl, s13, o, ?_, hv⟩
          rw [etk]
          exact sn.1 hne
        · obtain ⟨vb, hvb, sv⟩ := hyes _ (hin _ hmem hne)
          rw [hvb]
          rcases sv with ⟨rfl, lst⟩ | ⟨b, g, rfl, lst, way⟩
          · refine ⟨_, rfl, rfl, false, rfl, ?_⟩
            refine ⟨v, _, _, _, _, _, rfl, s13, o, ?_, hv⟩
            rw [etk]
            exact sn.2.1 lst
          · have hb : ∃ y, H b = some (.tup [.int g, y]) := by
              rcases way with ⟨_, z⟩ | ⟨_, _, _, _, _, _, z, _⟩
              · exact ⟨_, z⟩
              · exact ⟨_, z⟩
            obtain ⟨yb, hb⟩ := hb
            have hb3 := s13 _ _ hb
            refine ⟨_, rfl, rfl, true, rfl, ?_⟩
            have firsts : (∀ p, o = some p → x.2.2 + g < p) → FirstR xs w (x.2.2 + g) i := fun lt j y hj hy ne => by
              refine first_of ho lt y.2 ?_ ne
              rw [List.mem_take_iff_getElem]
              obtain ⟨h1, h2⟩ := List.getElem?_eq_some_iff.mp hy
              have hi := (List.getElem?_eq_some_iff.mp hrw).1
              refine ⟨j, by omega, ?_⟩
              rw [List.getElem_map, h2]
            rcases hv with ⟨rfl, rfl⟩ | ⟨p, b', rfl, rfl, j, r', x', k1, k2, k3, k4, k5⟩
            · refine ⟨_, rfl, rfl, true, rfl, ?_⟩
              refine ⟨_, rfl, _, rfl, b, _, _, _, rfl, rfl, SqT.of hb3, atI_nat (j := 0) rfl, _, _, rfl, rfl, _, rfl, by show 2 ≤ sizeLine; decide, fun t4 nt4 => ?_⟩
              refine ⟨.ref t4, _, _, _, _, _, rfl, s13.trans (same_upd nt4), some (x.2.2 + g), ?_, .inr ⟨_, t4, rfl, rfl, i, u, x, hu, hxx, upd_same, hne, ?_, ?_⟩⟩
              · rw [etk]
                exact sn.2.2.1 g hne lst (fun p z => nomatch z)
              · rw [show x.2.2 + g - x.2.2 = g by omega]
                exact lst
              · exact firsts (fun p z => nomatch z)
            · refine ⟨_, rfl, rfl, false, rfl, ?_⟩
              refine ⟨_, rfl, _, rfl, b, _, _, _, rfl, rfl, SqT.of hb3, atI_nat (j := 0) rfl, _, _, rfl, rfl, _, rfl, b', _, _, _, rfl, rfl, SqT.of k3, atI_nat (j := 0) rfl, _, _, rfl, rfl, _, rfl, ite2 (fun c => ?_) (fun c => ?_)⟩
              · have c' : x.2.2 + g < p := of_decide_eq_true c
                refine ⟨_, rfl, _, rfl, b, _, _, _, rfl, rfl, SqT.of hb3, atI_nat (j := 0) rfl, _, _, rfl, rfl, _, rfl, by show 2 ≤ sizeLine; decide, fun t4 nt4 => ?_⟩
                refine ⟨.ref t4, _, _, _, _, _, rfl, s13.trans (same_upd nt4), some (x.2.2 + g), ?_, .inr ⟨_, t4, rfl, rfl, i, u, x, hu, hxx, upd_same, hne, ?_, ?_⟩⟩
                · rw [etk]
                  exact sn.2.2.1 g hne lst (fun p' z => by cases z; exact c')
                · rw [show x.2.2 + g - x.2.2 = g by omega]
                  exact lst
                · exact firsts (fun p' z => by cases z; exact c')
              · refine ⟨.ref b', _, _, _, _, _, rfl, s13, some p, ?_, .inr ⟨p, b', rfl, rfl, j, r', x', k1, k2, k3, k4, k5⟩⟩
                rw [etk]
                exact sn.2.2.2 g p lst rfl fun z => c (decide_eq_true z)
    · obtain ⟨v, y4, y5, y6, y7, y8, rfl, s1, o, ho, hv⟩ := hp
      refine ⟨_, rfl, q H1 v s1 ?_⟩
      rw [List.length_map, lal, List.take_of_length_le (by rw [List.length_map]; exact Nat.le_refl _)] at ho
      have li : LeastIs (rwsM xs) w o := leastIs_step nn hip hpos (fun r hr ne => by
        obtain ⟨kvs, _, _, hyes⟩ := hst.val nd
        obtain ⟨_, _, sv⟩ := hyes _ (hin r hr ne)
        obtain ⟨o, h, _⟩ := sv.least
        exact ⟨o, h⟩) ho
      rcases hv with ⟨rfl, rfl⟩ | ⟨p, b, rfl, rfl, way⟩
      · exact .inl ⟨rfl, li⟩
      · exact .inr ⟨b, p, rfl, li, .inr ⟨hany, way⟩⟩
end
/-! ### lesser wants: which, and in which order -/
def lexP : List Int → List Int → Prop
  | a :: r, b :: q => a < b ∨ (a = b ∧ lexP r q)
  | _, _ => False
theorem lexP_asymm : ∀ {a b : List Int}, lexP a b → lexP b a → False
  | [], _, h, _ => h.elim
  | _ :: _, [], h, _ => h.elim
  | a :: r, b :: q, h, k => by
    rcases h with h | ⟨h1, h2⟩
    · rcases k with k | ⟨k1, _⟩ <;> omega
    · rcases k with k | ⟨_, k2⟩
      · omega
      · exact lexP_asymm h2 k2
def LeW : List Int → List Int → Prop
  | [], [] => True
  | a :: r, b :: w => 0 ≤ a ∧ a ≤ b ∧ LeW r w
  | _, _ => False
theorem LeW.len : ∀ {r w : List Int}, LeW r w → r.length = w.length
  | [], [], _ => rfl
  | [], _ :: _, h => h.elim
  | _ :: _, [], h => h.elim
  | _ :: _, _ :: _, h => by rw [List.length_cons, List.length_cons, LeW.len h.2.2]
theorem LeW.nonneg : ∀ {r w : List Int}, LeW r w → ∀ x ∈ r, 0 ≤ x
  | [], [], _, _, hx => nomatch hx
  | [], _ :: _, h, _, _ => h.elim
  | _ :: _, [], h, _, _ => h.elim
  | a :: r, _ :: _, h, x, hx => by
    rcases List.mem_cons.mp hx with rfl | hx
    · exact h.1
    · exact LeW.nonneg h.2.2 x hx
theorem LeW.trans : ∀ {a b c : List Int}, LeW a b → LeW b c → LeW a c
  | [], [], [], _, _ => True.intro
  | [], [], _ :: _, _, h => h.elim
  | [], _ :: _, _, h, _ => h.elim
  | _ :: _, [], _, h, _ => h.elim
  | _ :: _, _ :: _, [], _, h => h.elim
  | _ :: _, _ :: _, _ :: _, h, k => ⟨h.1, Int.le_trans h.2.1 k.2.1, LeW.trans h.2.2 k.2.2⟩
theorem LeW.refl : ∀ {w : List Int}, (∀ x ∈ w, 0 ≤ x) → LeW w w
  | [], _ => True.intro
  | a :: r, h => ⟨h a List.mem_cons_self, Int.le_refl _, LeW.refl fun x hx => h x (List.mem_cons_of_mem _ hx)⟩
theorem LeW.small : ∀ {r w : List Int}, LeW r w → Small w → Small r
  | [], [], _, _ => fun x hx => nomatch hx
  | [], _ :: _, h, _ => h.elim
  | _ :: _, [], h, _ => h.elim
  | a :: r, b :: w, h, sm => fun x hx => by
    have hb := sm b List.mem_cons_self
    rcases List.mem_cons.mp hx with rfl | hx
    · exact ⟨h.1, by have := h.2.1; omega⟩
    · exact LeW.small h.2.2 (fun y hy => sm y (List.mem_cons_of_mem _ hy)) x hx
theorem LeW.get : ∀ {r w : List Int} {i : Nat} {n : Int}, LeW r w → r[i]? = some n → ∃ m, w[i]? = some m ∧ 0 ≤ n ∧ n ≤ m
  | [], [], _, _, _, e => by simp at e
  | [], _ :: _, _, _, h, _ => h.elim
  | _ :: _, [], _, _, h, _ => h.elim
  | a :: r, b :: w, 0, n, h, e => by cases Option.some.inj e; exact ⟨b, rfl, h.1, h.2.1⟩
  | a :: r, b :: w, i + 1, n, h, e => LeW.get (i := i) h.2.2 e
theorem upto_mem {n a : Int} : a ∈ upto n ↔ 0 ≤ a ∧ a ≤ n := by
  unfold upto
  rw [List.mem_map]
  constructor
  · rintro ⟨i, hi, rfl⟩
    have := List.mem_range.mp hi
    omega
  · rintro ⟨h1, h2⟩
    exact ⟨a.toNat, List.mem_range.mpr (by omega), by omega⟩
theorem lesserF_mem : ∀ {w r : List Int}, r ∈ lesserF w ↔ LeW r w
  | [], r => by
    show r ∈ [[]] ↔ _
    rw [List.mem_singleton]
    cases r with
    | nil => exact ⟨fun _ => True.intro, fun _ => rfl⟩
    | cons a q => exact ⟨(fun z => nomatch z), fun h => h.elim⟩
  | n :: w, r => by
    show r ∈ (upto n).flatMap (fun a => (lesserF w).map (a :: ·)) ↔ _
    rw [List.mem_flatMap]
    constructor
    · rintro ⟨a, ha, hr⟩
      obtain ⟨s, hs, rfl⟩ := List.mem_map.mp hr
      have := upto_mem.mp ha
      exact ⟨this.1, this.2, lesserF_mem.mp hs⟩
    · intro h
      cases r with
      | nil => exact h.elim
      | cons a s => exact ⟨a, upto_mem.mpr ⟨h.1, h.2.1⟩, List.mem_map.mpr ⟨s, lesserF_mem.mpr h.2.2, rfl⟩⟩
theorem upto_rise (n : Int) : (upto n).Pairwise (· < ·) := by
  unfold upto
  rw [List.pairwise_map]
  exact List.pairwise_lt_range.imp fun h => by omega
theorem lesserF_sorted : ∀ w : List Int, (lesserF w).Pairwise lexP
  | [] => List.pairwise_singleton _ _
  | n :: w => by
    show ((upto n).flatMap (fun a => (lesserF w).map (a :: ·))).Pairwise lexP
    rw [List.pairwise_flatMap]
    refine ⟨fun a _ => ?_, (upto_rise n).imp fun {a b} h x hx y hy => ?_⟩
    · rw [List.pairwise_map]
      exact (lesserF_sorted w).imp fun h => .inr ⟨rfl, h⟩
    · obtain ⟨s, _, rfl⟩ := List.mem_map.mp hx
      obtain ⟨t, _, rfl⟩ := List.mem_map.mp hy
      exact .inl h
theorem lesserF_nodup (w : List Int) : (lesserF w).Nodup := by
  rw [List.nodup_iff_pairwise_ne]
  exact (lesserF_sorted w).imp fun {a b} h z => by rw [z] at h; exact lexP_asymm h h
theorem restM_step (n : Int) (w c : List Int) : restM (n :: w) c = (if n - hadM c 0 > 0 then n - hadM c 0 else 0) :: restM w c.tail := by
  unfold restM
  rw [List.length_cons, List.range_succ_eq_map, List.map_cons, List.map_map]
  congr 1
  refine List.map_congr_left fun i _ => ?_
  have e : hadM c (i + 1) = hadM c.tail i := by
    cases c with
    | nil => rfl
    | cons a q => rfl
  show (if w.getD i 0 - hadM c (i + 1) > 0 then w.getD i 0 - hadM c (i + 1) else 0) = _
  rw [e]
theorem rest_le : ∀ {w c : List Int}, (∀ x ∈ w, 0 ≤ x) → (∀ x ∈ c, 0 ≤ x) → LeW (restM w c) w ∧ (restM w c ≠ w → lexP (restM w c) w)
  | [], c, _, _ => ⟨True.intro, fun h => absurd rfl h⟩
  | n :: w, c, hw, hc => by
    have h0 := hw n List.mem_cons_self
    have hn := had_nonneg hc 0
    obtain ⟨i1, i2⟩ := rest_le (w := w) (c := c.tail) (fun x hx => hw x (List.mem_cons_of_mem _ hx)) (fun x hx => hc x (List.mem_of_mem_tail hx))
    rw [restM_step]
    refine ⟨⟨by split <;> omega, by split <;> omega, i1⟩, fun h => ?_⟩
    by_cases e : (if n - hadM c 0 > 0 then n - hadM c 0 else 0) = n
    · refine .inr ⟨e, i2 fun z => h ?_⟩
      rw [e, z]
    · refine .inl ?_
      split at e <;> split <;> omega
theorem lesser_before {ws w r : List Int} {i : Nat} (hw : (lesserF ws)[i]? = some w) (hr : LeW r ws) (hlt : lexP r w) : r ∈ (lesserF ws).take i := by
  obtain ⟨j, hj, e⟩ := List.getElem_of_mem (lesserF_mem.mpr hr)
  obtain ⟨hi, e2⟩ := List.getElem?_eq_some_iff.mp hw
  rcases Nat.lt_or_ge j i with z | z
  · rw [List.mem_take_iff_getElem]
    exact ⟨j, by omega, e⟩
  · exfalso
    rcases Nat.lt_or_eq_of_le z with z | z
    · have := List.pairwise_iff_getElem.mp (lesserF_sorted ws) i j hi hj z
      rw [e, e2] at this
      exact lexP_asymm hlt this
    · subst z
      rw [← e2, e] at hlt
      exact lexP_asymm hlt hlt
theorem lesser_not_before {ws w : List Int} {i : Nat} (hw : (lesserF ws)[i]? = some w) : w ∉ (lesserF ws).take i := fun h => by
  obtain ⟨hi, e⟩ := List.getElem?_eq_some_iff.mp hw
  obtain ⟨j, hj, e2⟩ := List.mem_take_iff_getElem.mp h
  have := List.pairwise_iff_getElem.mp (lesserF_sorted ws) j i (by omega) hi (by omega)
  rw [e, e2] at this
  exact lexP_asymm this this
theorem anyI_pos {w : List Int} (h0 : ∀ x ∈ w, 0 ≤ x) (h : anyI w = true) : ∃ (i : Nat) (n : Int), w[i]? = some n ∧ 0 < n := by
  obtain ⟨n, hn, h1⟩ := List.any_eq_true.mp h
  obtain ⟨i, hi, e⟩ := List.getElem_of_mem hn
  have := h0 n hn
  have ne : n ≠ 0 := fun z => by rw [z] at h1; cases h1
  exact ⟨i, n, by rw [List.getElem?_eq_getElem hi, e], by omega⟩
theorem anyI_zero {w : List Int} (h : anyI w = false) : ∀ x ∈ w, x = 0 := fun x hx => by
  have := List.any_eq_false.mp h x hx
  exact Classical.byContradiction fun z => this (by show (x != 0) = true; exact bne_iff_ne.mpr z)
def sp_all_steps : Sp := fun vs H Q _ => ∃ (pa wa : Addr) (ws : List Int) (as : List Addr) (xs : List PR), vs = [.ref pa, .ref wa] ∧ H pa = some (.lst (as.map V.ref)) ∧ Al (PRowAt H) as xs ∧ H wa = some (LI ws) ∧ ws.length ≤ 4 ∧ Small ws ∧ NN (rwsM xs) ∧
  ∀ H' d, Same H H' → H d = none → StepsAt H' d as xs (lesserF ws) → Q (.ref d) H'
section
variable {P : Program} {w : World} {K : PySem.W.Frag} {mg : Str → Option Value} {base : Heap} {T : List Addr}
theorem ok_all_steps {f f1 f2 f3 f4 : Addr} {fd fd1 fd2 fd3 fd4 : FuncData} {k : Nat} (M : Names mg) (D : Def K mg "all_steps" s_all_steps ["priced", "want"] f fd) (D_best_step : Def K mg "best_step" s_best_step ["less", "priced", "steps"] f1 fd1) (D_rest : Def K mg "rest" s_rest ["want", "content"] f2 fd2) (D_had : Def K mg "had" s_had ["content", "thing"] f3 fd3) (D_lesser : Def K mg "lesser" s_lesser ["want"] f4 fd4) : FnOk P w K mg base CX0 (k + 4) f fd ["priced", "want"] sp_all_steps := by
  have G_best_step : FnOk P w K mg base CX0 (k + 3) f1 fd1 ["less", "priced", "steps"] sp_best_step := ok_best_step M D_best_step D_rest D_had
  have G_lesser : FnOk P w K mg base CX0 (k + 3) f4 fd4 ["want"] (sp_lesser K) := ok_lesser M D_lesser
  refine D.F.ok sc_all_steps (fun vs H Q E h => ?_) (fun cdv A outer s H vs Q E hr h => ?_)
  · obtain ⟨pa, wa, ws, as, xs, rfl, _⟩ := h
    rfl
  · obtain ⟨pa, wa, ws, as, xs, rfl, hpa, al, hwa, h4, sm, nn, q⟩ := h
    refine ⟨_, (pss_cons (ps_set (i := 2) sc_all_steps.nd rfl (Or.inl rfl) pe_dnewT)
  (pss_cons (ps_for PassesOwn.never rfl (pi_list (pe_call G_lesser hr (by rfl) D_lesser.g D_lesser.F.kp D_lesser.b .nil pass0 (pa_cons (pv 1) pa_nil))) (pg_name (i := 3) sc_all_steps.nd rfl (Or.inl rfl))
   (pss_one (ps_dput (hu_of hr) (pv 2) (pe_tupleOf (by rfl) M.tuple (pv 3)) (pe_ifExp (pt_val (pe_callB (cr_anyI rfl) (by rfl) M.any (by decide +kernel) (pa_cons (pv 3) pa_nil))) (pe_call G_best_step hr (by rfl) D_best_step.g D_best_step.F.kp D_best_step.b .nil pass0 (pa_cons (pv 3) (pa_cons (pv 0) (pa_cons (pv 2) pa_nil)))) (pe_tup (pa_cons pe_int (pa_cons pe_non pa_nil)))) rfl)))
  (pss_one (ps_ret (pv 2))))), ?_⟩
    refine fun d nd => ?_
    have s1 := same_upd (o := .dT []) nd
    have hd1 : upd H d (.dT []) d = some (.dT []) := upd_same
    generalize upd H d (.dT []) = H1 at s1 hd1 ⊢
    refine ⟨_, rfl, wa, ws, rfl, SqL.of (s1 _ _ hwa), h4, sm, fun H2 L s2 nL mk => ?_⟩
    obtain ⟨bs, hL, hbl, nbs, hb⟩ := mk
    have nLd : L ≠ d := fun z => by rw [z, hd1] at nL; cases nL
    have big := lesserF_le4 sm h4
    refine ⟨L, rfl, ⟨_, SqL.of hL⟩, for_list (K := K) (a := L) (xs := bs.map V.ref) (fun i σ H' => ∃ y3, σ = [some (.ref pa), some (.ref wa), some (.ref d), y3] ∧ Same H H' ∧ SameBut d H2 H' ∧ StepsAt H' d as xs ((lesserF ws).take i)) ⟨none, rfl, s1.trans s2, .refl _ _, [], s2 _ _ hd1, rfl, fun i w v hw => by simp at hw⟩ (fun i σ H' _ hp => ?_) (fun i x σ H3 hx hp => ?_) (fun σ H3 hp => ?_)⟩
    · obtain ⟨_, _, _, s3, _⟩ := hp
      exact SqL.of (s3 _ _ nLd hL)
    · obtain ⟨y3, rfl, s3, sb3, st⟩ := hp
      rw [List.getElem?_map] at hx
      cases hu : bs[i]? with
      | none => rw [hu] at hx; cases hx
      | some u =>
        rw [hu] at hx
        cases Option.some.inj hx
        have hi : i < bs.length := (List.getElem?_eq_some_iff.mp hu).1
        obtain ⟨w, hw⟩ : ∃ w, (lesserF ws)[i]? = some w := ⟨_, List.getElem?_eq_getElem (by omega)⟩
        obtain ⟨nu, nuL, hu2⟩ := hb i u w hu hw
        have nud : u ≠ d := fun z => by rw [z, hd1] at nu; cases nu
        have hu3 := sb3 _ _ nud hu2
        have lew : LeW w ws := lesserF_mem.mp (List.mem_of_getElem? hw)
        have w0 := lew.nonneg
        have wl := lew.len
        have ndp : ((lesserF ws).take i).Nodup := (lesserF_nodup ws).sublist (List.take_sublist _ _)
        obtain ⟨kvs, hkv, _, _⟩ := st.val ndp
        have lkv : kvs.length ≤ 10000 := by
          obtain ⟨vs, e1, e2, _⟩ := id st
          rw [hkv] at e1
          injection Option.some.inj e1 with e1
          rw [e1, List.length_zip, List.length_map, List.length_take]
          omega
        -- the end of a step
        have fin : ∀ (H4 : Hp) (v : V), Same H3 H4 → StepV H4 as xs w v → ∃ x H5, x = V.ref d ∧ H5 = H4 ∧ (∃ p xs', (V.ref u = .ref p ∧ SqL K H4 p xs' ∧ ∀ q, H4 q = none → ∃ a' H6, x = .ref a' ∧ DPut (upd H4 q (.tup xs')) a' (.ref q) v H6 ∧ ∃ y3, ([some (V.ref pa), some (.ref wa), some (.ref d), some (.ref u)] : L2.St) = [some (.ref pa), some (.ref wa), some (.ref d), y3] ∧ Same H H6 ∧ SameBut d H2 H6 ∧ StepsAt H6 d as xs ((lesserF ws).take (i + 1)))) := by
          intro H4 v s4 hv
          refine ⟨_, _, rfl, rfl, u, _, rfl, SqL.of (s4 _ _ hu3), fun t nt => ?_⟩
          have s5 := s4.trans (same_upd (o := .tup (w.map V.int)) nt)
          have hkv5 := s5 _ _ hkv
          refine ⟨d, _, rfl, DPut.t hkv5 (k := keyW w) (by rw [keyW_kV]; exact upd_same) (szL' (by omega)), _, rfl, sm_new (s3.trans s5) nd, (sb3.trans (.of s5)).trans .upd, ?_⟩
          rw [take_succ_at hw]
          exact st.put (lesser_not_before hw) hkv (.of s5) (hv.ke (.of (same_upd nt)))
        refine ⟨_, rfl, u, w, rfl, SqL.of hu3, _, rfl, ite2 (fun c => ?_) (fun c => ?_)⟩
        · refine ⟨_, rfl, _, rfl, _, rfl, u, pa, d, w, as, xs, _, rfl, hu3, s3 _ _ hpa, al.imp fun r x h => h.ke (.of s3), st, ndp, nn, by omega, lesser_not_before hw, fun x hx ne => ?_, anyI_pos w0 c, c, fun H4 v s4 hv => ?_⟩
          · obtain ⟨r1, r2⟩ := rest_le (c := x.1) w0 (nn x hx).1
            exact lesser_before hw (r1.trans lew) (r2 ne)
          · obtain ⟨_, _, rfl, rfl, p, xs', e1, e2, e3⟩ := fin H4 v s4 hv
            exact ⟨_, rfl, _, rfl, .inl ⟨p, xs', e1, e2, e3⟩⟩
        · refine ⟨by show 2 ≤ sizeLine; decide, fun t nt => ?_⟩
          have c' : anyI w = false := by
            cases z : anyI w with
            | false => rfl
            | true => exact absurd z c
          obtain ⟨_, _, rfl, rfl, p, xs', e1, e2, e3⟩ := fin _ (.ref t) (same_upd (o := .tup [.int 0, .non]) nt) (.inr ⟨t, 0, rfl, leastIs_zero nn fun x hx => by rw [anyI_zero c' x hx]; exact Int.le_refl _, .inl ⟨c', upd_same⟩⟩)
          exact ⟨_, rfl, _, rfl, .inl ⟨p, xs', e1, e2, e3⟩⟩
    · obtain ⟨y3, rfl, s3, sb3, st⟩ := hp
      rw [List.length_map, hbl, List.take_length] at st
      exact ⟨_, rfl, q H3 d s3 nd st⟩
end
/-! ### sorted(xs) of data -/
theorem vals_refs : ∀ {as : List Addr} {its : List Value}, Vals (as.map V.ref) its → its = as.map Value.ref
  | [], _, h => by cases h; rfl
  | a :: r, _, h => by
    cases h with
    | cons h1 h2 =>
      cases h1
      rw [vals_refs h2]
      rfl
theorem refs_vals : ∀ (as : List Addr), Vals (as.map V.ref) (as.map Value.ref)
  | [] => .nil
  | a :: r => .cons rfl (refs_vals r)
theorem each_of {β : Type} {R : Addr → β → Prop} : ∀ {as : List Addr} {bs : List β}, Al R as bs → PySem.W.EachIs (fun v b => ∃ u, v = Value.ref u ∧ R u b) (as.map Value.ref) bs
  | [], [], _ => .nil
  | [], _ :: _, h => h.elim
  | _ :: _, [], h => h.elim
  | a :: _, _ :: _, h => .cons ⟨a, rfl, h.1⟩ (each_of h.2)
theorem of_each {β : Type} {R : Addr → β → Prop} : ∀ {out : List Value} {bs : List β}, PySem.W.EachIs (fun v b => ∃ u, v = Value.ref u ∧ R u b) out bs → ∃ as : List Addr, out = as.map Value.ref ∧ Al R as bs
  | _, _, .nil => ⟨[], rfl, True.intro⟩
  | _, _, .cons ⟨u, e, h⟩ t => by
    obtain ⟨as, e2, h2⟩ := of_each t
    exact ⟨u :: as, by rw [e, e2]; rfl, h, h2⟩
theorem al_zip {β : Type} {R : Addr → β → Prop} {Z : List (Addr × β)} : ∀ {as : List Addr} {bs : List β}, Al R as bs → (∀ q ∈ as.zip bs, q ∈ Z) → Al (fun u b => (u, b) ∈ Z) as bs
  | [], [], _, _ => True.intro
  | [], _ :: _, h, _ => h.elim
  | _ :: _, [], h, _ => h.elim
  | a :: as, b :: bs, h, z => ⟨z _ (by rw [List.zip_cons_cons]; exact List.mem_cons_self), al_zip h.2 fun q hq => z q (by rw [List.zip_cons_cons]; exact List.mem_cons_of_mem _ hq)⟩
theorem zip_al {β : Type} {R : Addr → β → Prop} : ∀ {as : List Addr} {bs : List β}, Al R as bs → ∀ u b, (u, b) ∈ as.zip bs → R u b
  | [], [], _, _, _, m => by simp at m
  | [], _ :: _, h, _, _, _ => h.elim
  | _ :: _, [], h, _, _, _ => h.elim
  | a :: as, b :: bs, h, u, c, m => by
    rw [List.zip_cons_cons] at m
    rcases List.mem_cons.mp m with e | m
    · cases e
      exact h.1
    · exact zip_al h.2 u c m
def rSortedD {β : Type} (K : PySem.W.Frag) (enc : β → PyData) : List V → Hp → VK → Prop := fun vs H Q => ∃ (a : Addr) (as : List Addr) (bs : List β), vs = [V.ref a] ∧ SqL K H a (as.map V.ref) ∧ Al (fun u b => Dp K H (.ref u) (enc b)) as bs ∧ PySem.W.AllAlike (bs.map enc) ∧ PySem.W.Sortable (bs.map enc) ∧ (∀ b ∈ bs, (enc b).depth ≤ 8) ∧
  ∀ (as' : List Addr) (p : Addr), H p = none → Al (fun u b => (u, b) ∈ as.zip bs) as' (bs.mergeSort (PySem.W.dataLe false enc)) → Q (.ref p) (upd H p (.lst (as'.map V.ref)))
theorem cr_sortedD {β : Type} {X : Cx} {enc : β → PyData} (hu : X.A.units + 64 < cLine) : CallR X (.builtin "sorted") (rSortedD X.K enc) := by
  intro pins s σ H vs us Q I r h
  obtain ⟨a, as, bs, rfl, hs, al, hal, hk, hd, q⟩ := h
  obtain ⟨its, rv, hl, hz⟩ := I.list hs
  rw [Vals.ref1 r]
  have e := vals_refs rv
  subst e
  have lal := al.len
  rw [List.length_map] at hz
  refine PySem.W.sorted_data (R := fun v b => ∃ u, v = Value.ref u ∧ (u, b) ∈ as.zip bs) (enc := enc) (bs := bs) hl.isList (each_of (al_zip al fun _ m => m)) (PySem.W.EachIs.mono (fun v b h => ?_) (each_of al)) hal hk (by omega) (fun b hb => ?_) (fun out ho eo => ?_)
  · obtain ⟨u, rfl, hu⟩ := h
    exact Dp.reads I _ _ _ hu rfl
  · have := hd b hb
    omega
  · obtain ⟨as', rfl, al'⟩ := of_each eo
    obtain ⟨ep, he'⟩ := PyProof.Rows.sortedAll_at s.heap (as.map Value.ref) (as'.map Value.ref).toArray
    have hlen : (as'.map V.ref).length ≤ sizeLine := by
      rw [List.length_map] at ho ⊢
      omega
    exact ⟨.ref _, upd H (s.heap.objs.size + 1) (.lst (as'.map V.ref)), I.laid (t' := s.toks) (fun _ _ => PyProof.Rows.sortedAll_old) (Nat.le_succ _) ⟨hlen, _, ep, refs_vals as', he'⟩, rfl, q _ _ (I.hok.fresh (Nat.le_succ _)) al'⟩
/-! ### the mathematics of choices -/
def selM : List Int → Nat → List Int
  | [], _ => []
  | p :: ps, b => if b % 2 = 1 then p :: selM ps (b / 2) else selM ps (b / 2)
def selN (ps : List Int) (b n : Nat) : List Int := ((List.range n).filter fun i => decide (b / 2 ^ i % 2 = 1)).map fun i => ps.getD i 0
def subsM (ps : List Int) : List (List Int) := (List.range (2 ^ ps.length)).map (selM ps)
theorem selN_all : ∀ (ps : List Int) (b : Nat), selN ps b ps.length = selM ps b
  | [], _ => rfl
  | p :: ps, b => by
    have ih := selN_all ps (b / 2)
    unfold selN at ih ⊢
    rw [List.length_cons, List.range_succ_eq_map, List.filter_cons, List.filter_map]
    have e : ((fun i => decide (b / 2 ^ i % 2 = 1)) ∘ Nat.succ) = fun i => decide (b / 2 / 2 ^ i % 2 = 1) := by
      funext i
      show decide (b / 2 ^ (i + 1) % 2 = 1) = _
      rw [Nat.pow_succ, Nat.mul_comm, Nat.div_div_eq_div_mul]
    rw [e]
    have t : List.map (fun i => (p :: ps).getD i 0) (List.map Nat.succ ((List.range ps.length).filter fun i => decide (b / 2 / 2 ^ i % 2 = 1))) = selM ps (b / 2) := by
      rw [List.map_map, ← ih]
      rfl
    show List.map _ (if decide (b / 2 ^ 0 % 2 = 1) = true then _ else _) = if b % 2 = 1 then _ else _
    rw [Nat.pow_zero, Nat.div_one]
    by_cases z : b % 2 = 1
    · rw [if_pos (decide_eq_true z), if_pos z, List.map_cons, t]
      rfl
    · rw [if_neg (by rw [decide_eq_true_eq]; exact z), if_neg z, t]
theorem selN_yes {ps : List Int} {b n : Nat} (h : b / 2 ^ n % 2 = 1) : selN ps b (n + 1) = selN ps b n ++ [ps.getD n 0] := by
  unfold selN
  rw [List.range_succ, List.filter_append, List.map_append]
  simp [h]
theorem selN_no {ps : List Int} {b n : Nat} (h : ¬ b / 2 ^ n % 2 = 1) : selN ps b (n + 1) = selN ps b n := by
  unfold selN
  rw [List.range_succ, List.filter_append, List.map_append]
  simp [h]
theorem selN_len (ps : List Int) (b n : Nat) : (selN ps b n).length ≤ n := by
  unfold selN
  rw [List.length_map]
  exact Nat.le_trans (List.length_filter_le _ _) (by rw [List.length_range]; exact Nat.le_refl _)
theorem selM_zero : ∀ ps : List Int, selM ps 0 = []
  | [] => rfl
  | _ :: ps => by
    show (if 0 % 2 = 1 then _ else selM ps (0 / 2)) = []
    rw [if_neg (by decide)]
    exact selM_zero ps
theorem range_two {α : Type} (f : Nat → α) : ∀ n : Nat, ((List.range (2 * n)).map f).Perm ((List.range n).map (fun j => f (2 * j)) ++ (List.range n).map (fun j => f (2 * j + 1)))
  | 0 => by simp
  | n + 1 => by
    have ih := range_two f n
    rw [show 2 * (n + 1) = 2 * n + 1 + 1 by omega, List.range_succ, List.range_succ, List.range_succ, List.map_append, List.map_append, List.map_append, List.map_append]
    simp only [List.map_cons, List.map_nil]
    refine ((ih.append_right _).append_right _).trans ?_
    rw [List.append_assoc, List.append_assoc, List.append_assoc]
    refine List.Perm.append_left _ ?_
    rw [← List.append_assoc, ← List.append_assoc]
    exact List.perm_append_comm.append_right _
theorem choices_head : ∀ ps : List Int, choicesM ps = [] :: (choicesM ps).tail
  | [] => rfl
  | _ :: _ => rfl
theorem subs_perm : ∀ ps : List Int, (subsM ps).Perm (choicesM ps)
  | [] => .refl _
  | p :: ps => by
    have ih := subs_perm ps
    have h1 : (subsM (p :: ps)).Perm (subsM ps ++ (subsM ps).map (p :: ·)) := by
      unfold subsM
      rw [List.length_cons, Nat.pow_succ, Nat.mul_comm]
      refine (range_two _ _).trans ?_
      rw [List.map_map]
      refine .of_eq ?_
      congr 1
      · refine List.map_congr_left fun j _ => ?_
        show (if 2 * j % 2 = 1 then _ else selM ps (2 * j / 2)) = _
        rw [if_neg (by omega), show 2 * j / 2 = j by omega]
      · refine List.map_congr_left fun j _ => ?_
        show (if (2 * j + 1) % 2 = 1 then p :: selM ps ((2 * j + 1) / 2) else _) = p :: selM ps j
        rw [if_pos (by omega), show (2 * j + 1) / 2 = j by omega]
    refine h1.trans ((ih.append (ih.map _)).trans ?_)
    show (choicesM ps ++ (choicesM ps).map (p :: ·)).Perm (([[]] ++ (choicesM ps).map (p :: ·)) ++ (choicesM ps).tail)
    rw [List.append_assoc]
    refine (List.Perm.append_right _ (.of_eq (choices_head ps))).trans ?_
    rw [List.cons_append]
    exact (List.perm_append_comm).cons _
theorem choices_tail : ∀ {ps c : List Int}, c ∈ (choicesM ps).tail → ∃ q r, c = q :: r ∧ q ∈ ps
  | [], c, h => by cases h
  | p :: ps, c, h => by
    have h' : c ∈ (choicesM ps).map (p :: ·) ++ (choicesM ps).tail := h
    rcases List.mem_append.mp h' with h' | h'
    · obtain ⟨d, _, rfl⟩ := List.mem_map.mp h'
      exact ⟨p, d, rfl, List.mem_cons_self⟩
    · obtain ⟨q, r, e, m⟩ := choices_tail h'
      exact ⟨q, r, e, List.mem_cons_of_mem _ m⟩
theorem choices_sorted : ∀ {ps : List Int}, ps.Pairwise (· < ·) → (choicesM ps).Pairwise (· ≤ ·)
  | [], _ => by
    show [([] : List Int)].Pairwise (· ≤ ·)
    simp
  | p :: ps, h => by
    obtain ⟨h1, h2⟩ := List.pairwise_cons.mp h
    have ih := choices_sorted h2
    show (([[]] ++ (choicesM ps).map (p :: ·)) ++ (choicesM ps).tail).Pairwise (· ≤ ·)
    rw [List.append_assoc, List.singleton_append, List.pairwise_cons]
    refine ⟨fun x _ => List.nil_le x, List.pairwise_append.mpr ⟨?_, ?_, ?_⟩⟩
    · rw [List.pairwise_map]
      exact ih.imp fun h => List.cons_le_cons_iff.mpr (.inr ⟨rfl, h⟩)
    · rw [choices_head ps] at ih
      exact (List.pairwise_cons.mp ih).2
    · intro x hx y hy
      obtain ⟨d, _, rfl⟩ := List.mem_map.mp hx
      obtain ⟨q, r, rfl, m⟩ := choices_tail hy
      exact List.cons_le_cons_iff.mpr (.inl (h1 q m))
theorem subs_sort {ps : List Int} (h : ps.Pairwise (· < ·)) : (subsM ps).mergeSort (PySem.W.dataLe false fun r : List Int => PyData.list (r.map PyData.int)) = choicesM ps := by
  rw [PySem.W.dataLe_rows (fun r : List Int => r)]
  have hs := List.pairwise_mergeSort (le := fun p q : List Int => decide (p ≤ q)) (fun a b c h1 h2 => decide_eq_true (List.le_trans (of_decide_eq_true h1) (of_decide_eq_true h2))) (fun a b => by
    rcases List.le_total a b with z | z
    · rw [decide_eq_true z]
      rfl
    · rw [decide_eq_true z, Bool.or_true]) (subsM ps)
  refine List.Perm.eq_of_pairwise (le := fun a b : List Int => a ≤ b) (fun a b _ _ h1 h2 => List.le_antisymm h1 h2) (hs.imp fun h => of_decide_eq_true h) (choices_sorted h) ((List.mergeSort_perm _ _).trans (subs_perm ps))
theorem adds_rise (os : List Ofr) (p : Int) (n : Nat) : (addsN os p n).Pairwise (· < ·) := by
  unfold addsN
  rw [List.pairwise_map]
  refine List.Pairwise.imp ?_ (List.Pairwise.filter _ (List.pairwise_lt_range (n := n)))
  intro a b h
  omega
/-! ### the order of lines, and how many there are -/
def lineLt (a b : Ln) : Prop := a.p < b.p ∨ (a.p = b.p ∧ (a.c < b.c ∨ (a.c = b.c ∧ a.as < b.as)))
theorem alike_line (a b : Ln) : PySem.W.alike (dLine a) (dLine b) = true := by
  have := PySem.W.alike_ints a.as b.as
  simp [dLine, PySem.W.alike, PySem.W.alikeAll, this]
theorem eqv_line {a b : Ln} (h : PyData.eqv (dLine a) (dLine b) = true) : a = b := by
  have e := eqv_ints a.as b.as
  simp only [dLine, PyData.eqv, PyData.eqvAll, Bool.and_eq_true] at h
  obtain ⟨h1, h2, h3, _⟩ := h
  have h3' : PyData.eqv (.list (a.as.map PyData.int)) (.list (b.as.map PyData.int)) = true := by simpa only [PyData.eqv] using h3
  rw [e] at h3'
  cases a
  cases b
  simp_all
theorem dataLt_line (a b : Ln) (h : PySem.W.dataLt (dLine a) (dLine b) = true) : lineLt a b := by
  unfold dLine at h
  rw [PySem.W.dataLt_tuple, PySem.W.dataLt_cons (by simp [PySem.W.alike]), PySem.W.dataLt_cons (by simp [PySem.W.alike]), PySem.W.dataLt_cons (by simp only [PySem.W.alike]; exact PySem.W.alike_ints _ _), PySem.W.dataLt_int, PySem.W.dataLt_int, PySem.W.dataLt_list] at h
  have e1 : PyData.eqv (.int a.p) (.int b.p) = decide (a.p = b.p) := by
    rw [Bool.eq_iff_iff]
    simp [PyData.eqv]
  have e2 : PyData.eqv (.int a.c) (.int b.c) = decide (a.c = b.c) := by
    rw [Bool.eq_iff_iff]
    simp [PyData.eqv]
  have e4 : PyProof.Rows.lexLt PyProof.Rows.itemOrd (PySem.W.keyToksAll (a.as.map PyData.int)) (PySem.W.keyToksAll (b.as.map PyData.int)) = decide (a.as < b.as) := PySem.W.dataLt_ints a.as b.as
  rw [e1, e2, eqv_ints, e4] at h
  unfold lineLt
  by_cases h1 : a.p = b.p
  · rw [if_pos (decide_eq_true h1)] at h
    by_cases h2 : a.c = b.c
    · rw [if_pos (decide_eq_true h2)] at h
      by_cases h3 : a.as = b.as
      · rw [if_pos (decide_eq_true h3)] at h
        have : PyProof.Rows.lexLt PyProof.Rows.itemOrd (PySem.W.keyToksAll []) (PySem.W.keyToksAll []) = false := PyProof.Rows.lex_irrefl _
        rw [this] at h
        cases h
      · rw [if_neg (by rw [decide_eq_true_eq]; exact h3)] at h
        exact .inr ⟨h1, .inr ⟨h2, of_decide_eq_true h⟩⟩
    · rw [if_neg (by rw [decide_eq_true_eq]; exact h2)] at h
      exact .inr ⟨h1, .inl (of_decide_eq_true h)⟩
  · rw [if_neg (by rw [decide_eq_true_eq]; exact h1)] at h
    exact .inl (of_decide_eq_true h)
theorem lineLt_asymm {a b : Ln} (h : lineLt a b) (k : lineLt b a) : False := by
  unfold lineLt at h k
  rcases h with h | ⟨h1, h | ⟨h2, h⟩⟩ <;> rcases k with k | ⟨k1, k | ⟨k2, k⟩⟩
  all_goals first
    | omega
    | exact List.lt_asymm h k
theorem choices_strict : ∀ {ps : List Int}, ps.Pairwise (· < ·) → (choicesM ps).Pairwise (· < ·)
  | [], _ => by
    show [([] : List Int)].Pairwise (· < ·)
    simp
  | p :: ps, h => by
    obtain ⟨h1, h2⟩ := List.pairwise_cons.mp h
    have ih := choices_strict h2
    show (([[]] ++ (choicesM ps).map (p :: ·)) ++ (choicesM ps).tail).Pairwise (· < ·)
    rw [List.append_assoc, List.singleton_append, List.pairwise_cons]
    refine ⟨fun x hx => ?_, List.pairwise_append.mpr ⟨?_, ?_, ?_⟩⟩
    · rcases List.mem_append.mp hx with hx | hx
      · obtain ⟨d, _, rfl⟩ := List.mem_map.mp hx
        exact List.nil_lt_cons _ _
      · obtain ⟨q, r, rfl, _⟩ := choices_tail hx
        exact List.nil_lt_cons _ _
    · rw [List.pairwise_map]
      exact ih.imp fun h => List.cons_lt_cons_iff.mpr (.inr ⟨rfl, h⟩)
    · rw [choices_head ps] at ih
      exact (List.pairwise_cons.mp ih).2
    · intro x hx y hy
      obtain ⟨d, _, rfl⟩ := List.mem_map.mp hx
      obtain ⟨q, r, rfl, m⟩ := choices_tail hy
      exact List.cons_lt_cons_iff.mpr (.inl (h1 q m))
theorem lines_strict (os : List Ofr) : (linesM os).Pairwise lineLt := by
  unfold linesM
  rw [List.pairwise_flatMap]
  refine ⟨fun i _ => ?_, List.Pairwise.imp ?_ (List.pairwise_lt_range (n := os.length))⟩
  · unfold linesAtM
    split
    · rw [List.pairwise_map]
      exact (choices_strict (adds_rise os i os.length)).imp fun h => .inr ⟨rfl, .inr ⟨rfl, h⟩⟩
    · rw [List.pairwise_map]
      refine List.Pairwise.imp ?_ (List.pairwise_lt_range (n := 12))
      intro a b h
      exact .inr ⟨rfl, .inl (by show 1 + (a : Int) < 1 + (b : Int); omega)⟩
    · exact List.Pairwise.nil
  · intro i j hij x hx y hy
    have e1 := linesAtM_p hx
    have e2 := linesAtM_p hy
    exact .inl (by omega)
theorem lines_sort (os : List Ofr) : (linesM os).mergeSort (PySem.W.dataLe false dLine) = linesM os := by
  refine List.mergeSort_of_pairwise ((lines_strict os).imp fun {a b} h => ?_)
  show (!PySem.W.dataLt (dLine b) (dLine a)) = true
  cases z : PySem.W.dataLt (dLine b) (dLine a) with
  | false => rfl
  | true => exact (lineLt_asymm h (dataLt_line b a z)).elim
/-! ### cheapest, least -/
abbrev s_cheapest : Stmt := topS 26
abbrev N_cheapest : List Str := ["priced", "want", "steps", "found", "purchase", "left", "content", "price", "place", "count", "adds"]
theorem sc_cheapest : FnScope N_cheapest ["priced", "want"] (defScope s_cheapest) := ⟨rfl, rfl, rfl, by decide +kernel, rfl, by decide +kernel, by decide +kernel⟩

abbrev s_least : Stmt := topS 27
abbrev N_least : List Str := ["shop", "want"]
theorem sc_least : FnScope N_least ["shop", "want"] (defScope s_least) := ⟨rfl, rfl, rfl, by decide +kernel, rfl, by decide +kernel, by decide +kernel⟩

abbrev AL := Addr × Ln
def LnkF (H0 H : Hp) (la : Addr) (bl : AL) : Prop := H la = some (.tup [.int bl.2.p, .int bl.2.c, .ref bl.1]) ∧ H bl.1 = some (LI bl.2.as) ∧ H0 la = none ∧ H0 bl.1 = none
theorem LnkF.ke {H0 H H' : Hp} (e : Ke H H') {a : Addr} {x : AL} (h : LnkF H0 H a x) : LnkF H0 H' a x := ⟨e.tup h.1, e.lst h.2.1, h.2.2⟩
theorem LnkF.at {H0 H : Hp} {a : Addr} {x : AL} (h : LnkF H0 H a x) : LineAt H a x.2 := ⟨_, h.1, h.2.1⟩
/-- a purchase of its own, no list at two places -/
def PurAt (H0 H : Hp) (q : Addr) (bls : List AL) : Prop := ∃ las : List Addr, H q = some (.lst (las.map V.ref)) ∧ Al (LnkF H0 H) las bls ∧ (bls.map (·.1)).Nodup ∧ q ∉ bls.map (·.1) ∧ H0 q = none
theorem LeW.sum_lt : ∀ {a b : List Int}, LeW a b → a.sum ≤ b.sum ∧ (a ≠ b → a.sum < b.sum)
  | [], [], _ => ⟨Int.le_refl _, fun h => absurd rfl h⟩
  | [], _ :: _, h => h.elim
  | _ :: _, [], h => h.elim
  | a :: r, b :: w, h => by
    obtain ⟨i1, i2⟩ := LeW.sum_lt h.2.2
    have := h.2.1
    rw [List.sum_cons, List.sum_cons]
    refine ⟨by omega, fun ne => ?_⟩
    by_cases e : a = b
    · have := i2 fun z => ne (by rw [e, z])
      omega
    · omega
theorem sumI_nonneg : ∀ {ws : List Int}, (∀ w ∈ ws, 0 ≤ w) → 0 ≤ ws.sum
  | [], _ => by decide
  | a :: r, h => by
    have h1 := h a List.mem_cons_self
    have h2 := sumI_nonneg (ws := r) fun w hw => h w (List.mem_cons_of_mem _ hw)
    rw [List.sum_cons]
    omega
theorem small_sum : ∀ {ws : List Int}, Small ws → ws.sum ≤ 9 * ws.length
  | [], _ => by simp
  | a :: q, sm => by
    have h1 := sm a List.mem_cons_self
    have h2 := small_sum (ws := q) fun x hx => sm x (List.mem_cons_of_mem _ hx)
    rw [List.sum_cons, List.length_cons]
    omega
theorem anyI_false_of {w : List Int} (h : ¬ anyI w = true) : anyI w = false := by
  cases z : anyI w with
  | false => rfl
  | true => exact absurd z h
def sp_cheapest : Sp := fun vs H Q _ => ∃ (pa wa : Addr) (ws : List Int) (as : List Addr) (xs : List PR), vs = [.ref pa, .ref wa] ∧ H pa = some (.lst (as.map V.ref)) ∧ Al (PRowAt H) as xs ∧ H wa = some (LI ws) ∧ ws.length ≤ 4 ∧ Small ws ∧ NN (rwsM xs) ∧
  (∀ H', Same H H' → LeastIs (rwsM xs) ws none → Q .non H') ∧
  ∀ H' (t q : Addr) (bls : List AL) (ys : List PR) (p : Int), Same H H' → H t = none → H' t = some (.tup [.int p, .ref q]) → PurAt H H' q bls → LeastIs (rwsM xs) ws (some p) → (∀ y ∈ ys, y ∈ xs) → CovM (rwsM ys) ws → costM (rwsM ys) = p → (bls.map (·.2)) = (ys.map (·.1)).mergeSort (PySem.W.dataLe false dLine) → (anyI ws = false → ys = []) → PathM xs ws ys → Q (.ref t) H'
section
variable {P : Program} {w : World} {K : PySem.W.Frag} {mg : Str → Option Value} {base : Heap} {T : List Addr}
theorem ok_cheapest {f f1 f2 f3 f4 f5 : Addr} {fd fd1 fd2 fd3 fd4 fd5 : FuncData} {k : Nat} (M : Names mg) (D : Def K mg "cheapest" s_cheapest ["priced", "want"] f fd) (D_all_steps : Def K mg "all_steps" s_all_steps ["priced", "want"] f5 fd5) (D_best_step : Def K mg "best_step" s_best_step ["less", "priced", "steps"] f1 fd1) (D_rest : Def K mg "rest" s_rest ["want", "content"] f2 fd2) (D_had : Def K mg "had" s_had ["content", "thing"] f3 fd3) (D_lesser : Def K mg "lesser" s_lesser ["want"] f4 fd4) : FnOk P w K mg base CX0 (k + 5) f fd ["priced", "want"] sp_cheapest := by
  have G_all_steps : FnOk P w K mg base CX0 (k + 4) f5 fd5 ["priced", "want"] sp_all_steps := ok_all_steps M D_all_steps D_best_step D_rest D_had D_lesser
  have G_rest : FnOk P w K mg base CX0 (k + 4) f2 fd2 ["want", "content"] (sp_rest K) := ok_rest M D_rest D_had
  refine D.F.ok sc_cheapest (fun vs H Q E h => ?_) (fun cdv A outer s H vs Q E hr h => ?_)
  · obtain ⟨pa, wa, ws, as, xs, rfl, _⟩ := h
    rfl
  · obtain ⟨pa, wa, ws, as, xs, rfl, hpa, al, hwa, h4, sm, nn, qn, qs⟩ := h
    refine ⟨_, (pss_cons (ps_set (i := 2) sc_cheapest.nd rfl (Or.inl rfl) (pe_call G_all_steps hr (by rfl) D_all_steps.g D_all_steps.F.kp D_all_steps.b .nil pass0 (pa_cons (pv 0) (pa_cons (pv 1) pa_nil))))
  (pss_cons (ps_set (i := 3) sc_cheapest.nd rfl (Or.inl rfl) (pe_dget1 (hu_of hr) (pv 2) (pe_tupleOf (by rfl) M.tuple (pv 1)) ⟨rfl, rfl, rfl, rfl⟩))
  (pss_cons (ps_if (pt_cmpR op_isN (pv 3) pe_non (nomark _))
   (pss_one (ps_ret pe_non))
   pss_nil)
  (pss_cons (ps_set (i := 4) sc_cheapest.nd rfl (Or.inl rfl) (pe_lst pa_nil))
  (pss_cons (ps_set (i := 5) sc_cheapest.nd rfl (Or.inl rfl) (pv 1))
  (pss_cons (ps_while PassesOwn.never (pt_val (pe_callB (cr_anyI rfl) (by rfl) M.any (by decide +kernel) (pa_cons (pv 5) pa_nil)))
   (pss_cons (ps_asg (pe_ix ix_tup (pe_dget (hu_of hr) (pv 2) (pe_tupleOf (by rfl) M.tuple (pv 5)) (fun _ _ => rfl)) pe_int (fun _ _ => rfl)) (pg_tup rfl (pgs_cons (pg_tup rfl (pgs_cons (pg_name (i := 8) sc_cheapest.nd rfl (Or.inl rfl)) (pgs_cons (pg_name (i := 9) sc_cheapest.nd rfl (Or.inl rfl)) (pgs_cons (pg_name (i := 10) sc_cheapest.nd rfl (Or.inl rfl)) pgs_nil)))) (pgs_cons (pg_name (i := 6) sc_cheapest.nd rfl (Or.inl rfl)) (pgs_cons (pg_name (i := 7) sc_cheapest.nd rfl (Or.inl rfl)) pgs_nil)))))
  (pss_cons (ps_expr (pe_bm PySem.F.plainAttrs_list PySem.F.slot_list_append PySem.F.type_list_append mt_append (pv 4) (pa_cons (pe_tup (pa_cons (pv 8) (pa_cons (pv 9) (pa_cons (pe_callTy call_list_of (by rfl) M.list (by decide +kernel) (pa_cons (pv 10) pa_nil)) pa_nil)))) pa_nil)))
  (pss_one (ps_set (i := 5) sc_cheapest.nd rfl (Or.inl rfl) (pe_call G_rest hr (by rfl) D_rest.g D_rest.F.kp D_rest.b .nil pass0 (pa_cons (pv 5) (pa_cons (pv 6) pa_nil))))))))
  (pss_one (ps_ret (pe_tup (pa_cons (pe_ix ix_tup (pv 3) pe_int (fun _ _ => rfl)) (pa_cons (pe_callB (cr_sortedD (enc := fun bl : AL => dLine bl.2) hr.units) (by rfl) M.sorted (by decide +kernel) (pa_cons (pv 4) pa_nil)) pa_nil))))))))))), ?_⟩
    refine ⟨_, rfl, _, rfl, pa, wa, ws, as, xs, rfl, hpa, al, hwa, h4, sm, nn, fun H1 d s1 nd st => ?_⟩
    have ws0 : ∀ x ∈ ws, 0 ≤ x := fun x hx => (sm x hx).1
    have lewz := LeW.refl ws0
    have nodup := lesserF_nodup ws
    obtain ⟨kvs, hkv, _, hyes⟩ := st.val nodup
    obtain ⟨v, hv, sv⟩ := hyes ws (lesserF_mem.mpr lewz)
    -- found
    refine ⟨_, rfl, d, rfl, .inr ⟨kvs, .inl hkv⟩, _, rfl, .inl ⟨wa, _, rfl, SqL.of (s1 _ _ hwa), fun t2 nt2 => ?_⟩⟩
    have s2 := same_upd (o := .tup (ws.map V.int)) nt2
    have hkv2 := s2 _ _ hkv
    have ht2 : upd H1 t2 (.tup (ws.map V.int)) t2 = some (.tup ((keyW ws).map kV)) := by rw [upd_same, keyW_kV]
    generalize upd H1 t2 (.tup (ws.map V.int)) = H2 at s2 hkv2 ht2 ⊢
    have s02 := s1.trans s2
    refine ⟨_, DGet.t hkv2 ht2, ?_⟩
    rw [hv]
    have st2 := st.ke (.of s2)
    have sv2 := sv.ke (.of s2)
    clear hyes hv sv
    rcases sv2 with ⟨rfl, li⟩ | ⟨tf, p, rfl, li, way⟩
    · refine ⟨_, rfl, rfl, true, rfl, ?_⟩
      exact qn H2 s02 li
    · refine ⟨_, rfl, rfl, false, rfl, ?_⟩
      have hf : ∃ y, H2 tf = some (.tup [.int p, y]) := by
        rcases way with ⟨_, z⟩ | ⟨_, _, _, _, _, _, z, _⟩
        · exact ⟨_, z⟩
        · exact ⟨_, z⟩
      obtain ⟨yf, hf⟩ := hf
      refine ⟨Nat.zero_le _, fun B nB => ?_⟩
      have nBH : H B = none := s02.free nB
      have s3 : Same H2 (upd H2 B (.lst [])) := same_upd nB
      have hB3 : upd H2 B (.lst []) B = some (.lst []) := upd_same
      have nwaB : wa ≠ B := ne_of_none hwa nBH
      refine ⟨_, rfl, ?_⟩
      refine ⟨fun μ σ H' => ∃ (lf : Addr) (wl : List Int) (ys : List PR) (las : List Addr) (bls : List AL) (r : Int) (y6 y7 y8 y9 y10 : Option V), σ = [some (.ref pa), some (.ref wa), some (.ref d), some (.ref tf), some (.ref B), some (.ref lf), y6, y7, y8, y9, y10] ∧ Same H2 H' ∧ H' lf = some (LI wl) ∧ lf ≠ B ∧ LeW wl ws ∧ H' B = some (.lst (las.map V.ref)) ∧ Al (LnkF H (cutH B H')) las bls ∧ (bls.map (·.1)).Nodup ∧ bls.map (·.2) = ys.map (·.1) ∧ (∀ y ∈ ys, y ∈ xs) ∧ costM (rwsM ys) + r = p ∧ LeastIs (rwsM xs) wl (some r) ∧ (∀ z, CovM z wl → CovM (rwsM ys ++ z) ws) ∧ (ys.length : Int) + wl.sum ≤ ws.sum ∧ (anyI ws = false → ys = []) ∧ (∀ z, PathM xs wl z → PathM xs ws (ys ++ z)) ∧ μ = wl.sum.toNat, ⟨_, wa, ws, [], [], [], p, none, none, none, none, none, rfl, s3, s3 _ _ (s02 _ _ hwa), nwaB, lewz, hB3, True.intro, List.nodup_nil, rfl, (fun y hy => nomatch hy), by show 0 + p = p; omega, li, fun z hz => hz, by show (0 : Int) + ws.sum ≤ ws.sum; omega, fun _ => rfl, fun z hz => hz, rfl⟩, fun μ σ H4 hW => ?_⟩
      obtain ⟨lf, wl, ys, las, bls, r, y6, y7, y8, y9, y10, rfl, s4, hlf, nlf, lew, hB4, all, nbl, ebl, sub, hcost, lis, hcov, hsz, hz0, hpath, rfl⟩ := hW
      have wl0 := lew.nonneg
      have smw := small_sum sm
      have wls := sumI_nonneg wl0
      have lbl : bls.length = ys.length := by
        have := congrArg List.length ebl
        rw [List.length_map, List.length_map] at this
        exact this
      have llas := all.len
      refine ⟨_, rfl, lf, wl, rfl, SqL.of hlf, _, rfl, ite2 (fun c => ?_) (fun c => ?_)⟩
      · -- a step
        refine ⟨fun σ' H' => ∃ μ', μ' < wl.sum.toNat ∧ ∃ (lf : Addr) (wl : List Int) (ys : List PR) (las : List Addr) (bls : List AL) (r : Int) (y6 y7 y8 y9 y10 : Option V), σ' = [some (.ref pa), some (.ref wa), some (.ref d), some (.ref tf), some (.ref B), some (.ref lf), y6, y7, y8, y9, y10] ∧ Same H2 H' ∧ H' lf = some (LI wl) ∧ lf ≠ B ∧ LeW wl ws ∧ H' B = some (.lst (las.map V.ref)) ∧ Al (LnkF H (cutH B H')) las bls ∧ (bls.map (·.1)).Nodup ∧ bls.map (·.2) = ys.map (·.1) ∧ (∀ y ∈ ys, y ∈ xs) ∧ costM (rwsM ys) + r = p ∧ LeastIs (rwsM xs) wl (some r) ∧ (∀ z, CovM z wl → CovM (rwsM ys ++ z) ws) ∧ (ys.length : Int) + wl.sum ≤ ws.sum ∧ (anyI ws = false → ys = []) ∧ (∀ z, PathM xs wl z → PathM xs ws (ys ++ z)) ∧ μ' = wl.sum.toNat, fun σ' H' hN => hN, ?_⟩
        have st4 := st2.ke (.of s4)
        obtain ⟨kvs4, hkv4, _, hyes4⟩ := st4.val nodup
        obtain ⟨v4, hv4, sv4⟩ := hyes4 wl (lesserF_mem.mpr lew)
        rcases sv4 with ⟨rfl, li4⟩ | ⟨b4, p4, rfl, li4, way4⟩
        · exact absurd (leastIs_unique li4 lis) (fun z => nomatch z)
        · rcases way4 with ⟨z, _⟩ | ⟨_, i, ra, x, hai, hxi, hb4, hne, hl4, hfr⟩
          · rw [c] at z
            cases z
          · cases Option.some.inj (leastIs_unique li4 lis)
            obtain ⟨x', hx', lx, cx, hr1, ⟨ab, hl1, hl2⟩, hc1⟩ := al.get hai
            cases Option.some.inj (hx'.symm.trans hxi)
            have s24 : Same H H4 := s02.trans s4
            have hxm : x ∈ xs := List.mem_of_getElem? hxi
            have hrm : x.2 ∈ rwsM xs := List.mem_map.mpr ⟨x, hxm, rfl⟩
            obtain ⟨r1, r2⟩ := rest_le (c := x.2.1) wl0 (nn _ hrm).1
            -- steps[tuple(left)][1]
            refine ⟨_, rfl, _, rfl, .inl ⟨lf, _, rfl, SqL.of hlf, fun t5 nt5 => ?_⟩⟩
            have s5 := same_upd (o := .tup (wl.map V.int)) nt5
            have ht5 : upd H4 t5 (.tup (wl.map V.int)) t5 = some (.tup ((keyW wl).map kV)) := by rw [upd_same, keyW_kV]
            have hkv5 := s5 _ _ hkv4
            have hB5 := s5 _ _ hB4
            have hb5 := s5 _ _ hb4
            have hlf5 := s5 _ _ hlf
            have s25 := s24.trans s5
            have all5 : Al (LnkF H (cutH B (upd H4 t5 (.tup (wl.map V.int))))) las bls := all.imp fun l x h => h.ke (.of (cut_mono s5))
            have s45 := s4.trans s5
            generalize upd H4 t5 (.tup (wl.map V.int)) = H5 at s5 ht5 hkv5 hB5 hb5 hlf5 s25 all5 s45 ⊢
            have dg := DGet.t hkv5 ht5
            rw [hv4] at dg
            refine ⟨d, _, rfl, dg, b4, _, _, _, rfl, rfl, SqT.of hb5, atI_nat (j := 1) rfl, ?_⟩
            refine ⟨ra, _, rfl, SqT.of (s25 _ _ hr1), rfl, _, _, rfl, ⟨lx, _, rfl, SqT.of (s25 _ _ hl1), rfl, _, _, rfl, _, _, rfl, _, _, rfl, rfl, ?_⟩⟩
            refine ⟨_, _, rfl, _, _, rfl, rfl, ?_⟩
            -- append
            refine ⟨_, rfl, .inl ⟨rfl, _, SqL.of hB5⟩, _, rfl, _, rfl, _, rfl, ab, _, rfl, .inl (SqL.of (s25 _ _ hl2)), fun l6 nl6 => ⟨by show 3 ≤ sizeLine; decide, fun t7 nt7 => ?_⟩⟩
            have s6 := same_upd (o := LI x.1.as) nl6
            have s7 := same_upd (o := .tup [.int x.1.p, .int x.1.c, .ref l6]) nt7
            have nl6B : l6 ≠ B := fun z => by rw [z, hB5] at nl6; cases nl6
            have nt7B : t7 ≠ B := fun z => by rw [z, s6 _ _ hB5] at nt7; cases nt7
            have hB7 := s7 _ _ (s6 _ _ hB5)
            have s57 : Same H5 _ := s6.trans s7
            refine ⟨B, _, _, rfl, rfl, hB7, szL' (by rw [List.length_map]; omega), ?_⟩
            have nl6' : ∀ bl ∈ bls.map (·.1), bl ≠ l6 := fun b hb z => by
              obtain ⟨bl, hbl, e⟩ := List.mem_map.mp hb
              obtain ⟨i, hi, e2⟩ := List.getElem_of_mem hbl
              have g : las[i]? = some (las[i]'(by omega)) := List.getElem?_eq_getElem (by omega)
              obtain ⟨y, hy, hln⟩ := all5.get g
              rw [List.getElem?_eq_getElem hi, e2] at hy
              cases Option.some.inj hy
              have := (cut_some hln.2.1).2
              rw [e, z, nl6] at this
              cases this
            have l6f : H l6 = none := s25.free nl6
            have t7f : H t7 = none := s25.free (s6.free nt7)
            have hl6 : (upd (upd H5 l6 (LI x.1.as)) t7 (.tup [.int x.1.p, .int x.1.c, .ref l6])) l6 = some (LI x.1.as) := s7 _ _ upd_same
            have ht7 : (upd (upd H5 l6 (LI x.1.as)) t7 (.tup [.int x.1.p, .int x.1.c, .ref l6])) t7 = some (.tup [.int x.1.p, .int x.1.c, .ref l6]) := upd_same
            generalize (upd (upd H5 l6 (LI x.1.as)) t7 (.tup [.int x.1.p, .int x.1.c, .ref l6])) = H7 at s7 s57 hB7 hl6 ht7 ⊢
            have s27 : Same H2 (upd H7 B (.lst (las.map V.ref ++ [.ref t7]))) := sm_new (s45.trans s57) nB
            have s07 : Same H (upd H7 B (.lst (las.map V.ref ++ [.ref t7]))) := s02.trans s27
            have hB8 : upd H7 B (.lst (las.map V.ref ++ [.ref t7])) B = some (.lst ((las ++ [t7]).map V.ref)) := by rw [upd_same, List.map_append]; rfl
            have all8 : Al (LnkF H (cutH B (upd H7 B (.lst (las.map V.ref ++ [.ref t7]))))) (las ++ [t7]) (bls ++ [(l6, x.1)]) := by
              rw [cut_off]
              exact Al.app (all5.imp fun l x h => h.ke (.of (cut_mono s57))) (.one ⟨cut_put nt7B ht7, cut_put nl6B hl6, t7f, l6f⟩)
            have hlf8 : upd H7 B (.lst (las.map V.ref ++ [.ref t7])) lf = some (LI wl) := by rw [upd_ne nlf]; exact s57 _ _ hlf5
            generalize upd H7 B (.lst (las.map V.ref ++ [.ref t7])) = H8 at s27 s07 hB8 all8 hlf8 ⊢
            -- left
            refine ⟨_, rfl, _, rfl, lf, cx, wl, x.2.1, rfl, SqL.of hlf8, SqL.of (s07 _ _ hc1), (by have := lew.len; omega), fun H9 q9 s9 nq9 hq9 => ?_⟩
            have nq9B : q9 ≠ B := fun z => by rw [z, hB8] at nq9; cases nq9
            have slt := r1.sum_lt.2 hne
            have sle := sumI_nonneg r1.nonneg
            refine ⟨_, ?_, q9, restM wl x.2.1, ys ++ [x], las ++ [t7], bls ++ [(l6, x.1)], r - x.2.2, _, _, _, _, _, rfl, s27.trans s9, hq9, nq9B, r1.trans lew, s9 _ _ hB8, all8.imp fun l x h => h.ke (.of (cut_mono s9)), ?_, ?_, fun y hy => ?_, ?_, hl4, fun z hz => ?_, ?_, fun z => ?_, fun z hz => ?_, rfl⟩
            · omega
            · rw [List.map_append]
              refine List.nodup_append.mpr ⟨nbl, by simp, fun x hx y hy => ?_⟩
              rw [List.mem_singleton.mp hy]
              exact nl6' x hx
            · rw [List.map_append, List.map_append, ebl]
              rfl
            · rcases List.mem_append.mp hy with z | z
              · exact sub y z
              · rw [List.mem_singleton.mp z]
                exact hxm
            · rw [show rwsM (ys ++ [x]) = rwsM ys ++ [x.2] from List.map_append, costM_app, show costM [x.2] = x.2.2 by show x.2.2 + 0 = _; omega]
              omega
            · have := hcov (x.2 :: z) (cov_cons hz)
              rw [show rwsM (ys ++ [x]) ++ z = rwsM ys ++ x.2 :: z by rw [show rwsM (ys ++ [x]) = rwsM ys ++ [x.2] from List.map_append, List.append_assoc]; rfl]
              exact this
            · rw [List.length_append, List.length_singleton]
              omega
            · have e0 := anyI_zero z
              obtain ⟨i, n, hi, hn⟩ := anyI_pos wl0 c
              obtain ⟨m, hm, _, hle⟩ := lew.get hi
              have := e0 m (List.mem_of_getElem? hm)
              omega
            · have := hpath (x :: z) (.step c lis hxi hne hl4 hfr hz)
              rw [List.append_assoc]
              exact this
      · -- the end
        have c' := anyI_false_of c
        have r0 : r = 0 := Option.some.inj (leastIs_unique lis (leastIs_zero nn fun x hx => by rw [anyI_zero c' x hx]; exact Int.le_refl _))
        have hcv : CovM (rwsM ys) ws := by
          have := hcov [] fun i n hn => by
            have := anyI_zero c' n (List.mem_of_getElem? hn)
            show n ≤ 0
            omega
          rw [List.append_nil] at this
          exact this
        have all4 : Al (LnkF H H4) las bls := all.imp fun l x h => h.ke (.of cut_le)
        refine ⟨_, rfl, tf, _, _, _, rfl, rfl, SqT.of (s4 _ _ hf), atI_nat (j := 0) rfl, ?_⟩
        refine ⟨_, rfl, B, las, bls, rfl, SqL.of hB4, all4.imp fun l x h => h.at.dp, PySem.W.AllAlike.of fun x y => alike_line x.2 y.2, PySem.W.Sortable.tuples fun l => ⟨_, _, rfl⟩, fun l _ => Nat.le_trans (depth_line l.2) (by decide), fun as' q5 nq5 al' => ⟨by show 2 ≤ sizeLine; decide, fun t6 nt6 => ?_⟩⟩
        have s5 := same_upd (o := .lst (as'.map V.ref)) nq5
        have s6 := same_upd (o := .tup [.int p, .ref q5]) nt6
        have zl := zip_al all4
        have nq5m : q5 ∉ (bls.mergeSort (PySem.W.dataLe false fun bl : AL => dLine bl.2)).map (·.1) := fun h => by
          obtain ⟨bl, hbl, e⟩ := List.mem_map.mp h
          obtain ⟨i, hi, e2⟩ := List.getElem_of_mem (List.mem_mergeSort.mp hbl)
          have g : las[i]? = some (las[i]'(by omega)) := List.getElem?_eq_getElem (by omega)
          obtain ⟨y, hy, hln⟩ := all4.get g
          rw [List.getElem?_eq_getElem hi, e2] at hy
          cases Option.some.inj hy
          have := hln.2.1
          rw [e, nq5] at this
          cases this
        refine qs _ t6 q5 (bls.mergeSort (PySem.W.dataLe false fun bl : AL => dLine bl.2)) ys p ((s02.trans s4).trans (s5.trans s6)) ((s02.trans s4).free (s5.free nt6)) upd_same ⟨as', s6 _ _ upd_same, al'.imp fun u b h => (zl u b h).ke (.of (s5.trans s6)), ?_, nq5m, (s02.trans s4).free nq5⟩ li sub hcv (by omega) ?_ hz0 ?_
        · exact ((List.mergeSort_perm bls _).map _).nodup_iff.mpr nbl
        · rw [← ebl]
          exact List.map_mergeSort fun a _ b _ => rfl
        · have := hpath [] (.done c')
          rw [List.append_nil] at this
          exact this
end
/-! ### the lines of a shop that fits -/
theorem priceM_nonneg {m : Nat} {os : List Ofr} {l : Ln} (ft : FitS m os) (lok : LineOk os l) : 0 ≤ priceM os l := by
  obtain ⟨p, ep, ways⟩ := lok
  unfold priceM
  rw [ep, Int.toNat_natCast]
  rcases ways with ⟨c, ts, w1, w0, w2, w3, w4⟩ | ⟨c, pr, w1, w2, w3, w4⟩
  · rw [w1]
    have hp : PriceT ts := (ft _ (List.mem_of_getElem? w1)).2.2
    have h0 : 0 ≤ pieceM ts l.c := by
      unfold pieceM pieceL
      cases z : ((ts.filter fun t => decide (t.1 ≤ l.c)).map (·.2)).getLast? with
      | none =>
        rw [List.getLastD_eq_getLast?, z]
        exact Int.le_refl _
      | some x =>
        rw [List.getLastD_eq_getLast?, z]
        obtain ⟨t, ht, rfl⟩ := List.mem_map.mp (List.mem_of_getLast? z)
        exact (hp t (List.mem_filter.mp ht).1).1
    exact Int.mul_nonneg (by omega) h0
  · rw [w1]
    have h1 : 0 ≤ pr := (ft _ (List.mem_of_getElem? w1)).2.2.1
    have h2 : 0 ≤ (l.as.map (addPr os)).sum := sumI_nonneg fun x hx => by
      obtain ⟨y, hy, rfl⟩ := List.mem_map.mp hx
      obtain ⟨j, rfl, c', pr', k, hj⟩ := w4 y hy
      unfold addPr
      rw [Int.toNat_natCast, hj]
      exact (ft _ (List.mem_of_getElem? hj)).2.2.1
    show 0 ≤ pr + _
    omega
theorem rws_nn {m : Nat} {os : List Ofr} (gd : Good os) (ft : FitS m os) : NN (rwsM (prowsM os)) := fun r hr => by
  obtain ⟨x, hx, rfl⟩ := List.mem_map.mp hr
  obtain ⟨l, hl, rfl⟩ := List.mem_map.mp hx
  have lk := lines_ok gd hl
  exact ⟨(cont_v0 ft lk).2, priceM_nonneg ft lk⟩
abbrev shopRws (os : List Ofr) : List Rw := rwsM (prowsM os)
def sp_least (T : List Addr) : Sp := fun vs H Q _ => ∃ (a wa : Addr) (os : List Ofr) (ws : List Int), vs = [.ref a, .ref wa] ∧ ShopAt H a os ∧ Good os ∧ Fit os ∧ NN (shopRws os) ∧ Tb T H ∧ H wa = some (LI ws) ∧ ws.length ≤ 4 ∧ Small ws ∧
  (∀ H', Ext T H H' → LeastIs (shopRws os) ws none → Q .non H') ∧
  ∀ H' (t q : Addr) (bls : List AL) (ys : List PR) (p : Int), Ext T H H' → H t = none → H' t = some (.tup [.int p, .ref q]) → PurAt H H' q bls → LeastIs (shopRws os) ws (some p) → (∀ y ∈ ys, y ∈ prowsM os) → CovM (rwsM ys) ws → costM (rwsM ys) = p → (bls.map (·.2)) = (ys.map (·.1)).mergeSort (PySem.W.dataLe false dLine) → (anyI ws = false → ys = []) → PathM (prowsM os) ws ys → Q (.ref t) H'
theorem PurAt.free {H0 H1 H : Hp} {q : Addr} {bls : List AL} (f : ∀ b, H1 b = none → H0 b = none) (h : PurAt H1 H q bls) : PurAt H0 H q bls := by
  obtain ⟨las, h1, h2, h3, h4, h5⟩ := h
  exact ⟨las, h1, h2.imp fun a x h => ⟨h.1, h.2.1, f _ h.2.2.1, f _ h.2.2.2⟩, h3, h4, f _ h5⟩
section
variable {P : Program} {w : World} {K : PySem.W.Frag} {mg : Str → Option Value} {base : Heap} {T : List Addr}
theorem ok_least {f f1 f2 : Addr} {fd fd1 fd2 : FuncData} {k : Nat} (M : Names mg) (D : Def K mg "least" s_least ["shop", "want"] f fd) (D_priced_lines : Def K mg "priced_lines" s_priced_lines ["shop"] f1 fd1) (D_cheapest : Def K mg "cheapest" s_cheapest ["priced", "want"] f2 fd2) (G_priced_lines : FnOk P w K mg base CX0 (k + 1) f1 fd1 ["shop"] (sp_priced_lines T)) (G_cheapest : FnOk P w K mg base CX0 (k + 1) f2 fd2 ["priced", "want"] sp_cheapest) : FnOk P w K mg base CX0 (k + 2) f fd ["shop", "want"] (sp_least T) := by
  refine D.F.ok sc_least (fun vs H Q E h => ?_) (fun cdv A outer s H vs Q E hr h => ?_)
  · obtain ⟨a, wa, os, ws, rfl, _⟩ := h
    rfl
  · obtain ⟨a, wa, os, ws, rfl, hS, gd, fit, nn, hT, hwa, h4, sm, qn, qs⟩ := h
    refine ⟨_, (pss_one (ps_ret (pe_call G_cheapest hr (by rfl) D_cheapest.g D_cheapest.F.kp D_cheapest.b .nil pass0 (pa_cons (pe_call G_priced_lines hr (by rfl) D_priced_lines.g D_priced_lines.F.kp D_priced_lines.b .nil pass0 (pa_cons (pv 0) pa_nil)) (pa_cons (pv 1) pa_nil))))), ?_⟩
    refine ⟨_, rfl, a, os, rfl, hS, gd, fit, hT, fun H1 pa e1 npa hpr => ?_⟩
    obtain ⟨as, hpa, al⟩ := hpr
    refine ⟨_, rfl, pa, wa, ws, as, prowsM os, rfl, hpa, al.imp fun r x h => h.at, e1.lst hwa, h4, sm, nn, fun H2 s2 li => qn H2 (e1.trans (.same s2 e1.t1)) li, fun H2 t q bls ys p s2 nt ht pur li sub cv cost eb hz pth => ?_⟩
    exact qs H2 t q bls ys p (e1.trans (.same s2 e1.t1)) (e1.free _ nt) ht (pur.free e1.free) li sub cv cost eb hz pth
end
/-! ### a number or None -/
def optV : Option Int → V
  | none => .non
  | some p => .int p
/-! ### _law_pop -/
abbrev s_law_pop : Stmt := topS 32
abbrev N_law_pop : List Str := ["_law_draws_here"]
theorem sc_law_pop : FnScope N_law_pop ["_law_draws_here"] (defScope s_law_pop) := ⟨rfl, rfl, rfl, by decide +kernel, rfl, by decide +kernel, by decide +kernel⟩

def sp_pop : Sp := fun vs H Q _ => ∃ (a : Addr) (ns : List Int), vs = [.ref a] ∧ H a = some (LI ns) ∧ ∀ H', SameBut a H H' → H' a = some (LI ns.tail) → Q (.int (ns.headD 0)) H'
section
variable {P : Program} {w : World} {K : PySem.W.Frag} {mg : Str → Option Value} {base : Heap}
theorem ok_pop {f : Addr} {fd : FuncData} {k : Nat} (D : Def K mg "_law_pop" s_law_pop ["_law_draws_here"] f fd) : FnOk P w K mg base CX0 (k + 1) f fd ["_law_draws_here"] sp_pop := by
  refine D.F.ok sc_law_pop (fun vs H Q E h => ?_) (fun cdv A outer s H vs Q E hr h => ?_)
  · obtain ⟨a, ns, rfl, _⟩ := h
    rfl
  · obtain ⟨a, ns, rfl, ha, q⟩ := h
    refine ⟨_, (pss_cons (ps_if (pt_cmpR (op_eqD hr.units) (pv 0) (pe_lst pa_nil) (nomark _))
   (pss_one (ps_ret pe_int))
   pss_nil)
  (pss_one (ps_ret (pe_bm PySem.F.plainAttrs_list PySem.F.slot_list_pop PySem.F.type_list_pop mt_popAt (pv 0) (pa_cons pe_int pa_nil))))), ?_⟩
    refine ⟨.ref a, rfl, Nat.zero_le _, fun p np => ?_⟩
    have ne : a ≠ p := ne_of_none ha np
    have ha1 : upd H p (.lst []) a = some (LI ns) := by rw [upd_ne ne]; exact ha
    have s1 : SameBut a H (upd H p (.lst [])) := .of (same_upd np)
    refine ⟨_, _, dp_ints (SqL.of ha1), dp_ints (ns := []) (SqL.of upd_same), shaped_ints _, shaped_ints _, _, rfl, ite2 (fun e => ?_) (fun e => ?_)⟩
    · rw [eqv_ints] at e
      have e2 : ns = [] := of_decide_eq_true e
      subst e2
      exact q _ s1 ha1
    · rw [eqv_ints] at e
      cases ns with
      | nil => exact absurd (decide_eq_true rfl) e
      | cons n r =>
        refine ⟨.ref a, rfl, .inl ⟨rfl, _, SqL.of ha1⟩, a, _, 0, 0, .int n, rfl, rfl, ha1, by decide, by decide, ?_, rfl, ?_⟩
        · rw [List.length_map, List.length_cons]
          exact (ixN_seq (ixN_nat (Nat.succ_pos _))).1
        · exact q _ (s1.trans .upd) upd_same
end
/-! ### _law_mix, _law_draws -/
abbrev s_law_mix : Stmt := topS 30
abbrev N_law_mix : List Str := ["_law_cell", "_law_turn", "_law_number"]
theorem sc_law_mix : FnScope N_law_mix ["_law_cell", "_law_turn"] (defScope s_law_mix) := ⟨rfl, rfl, rfl, by decide +kernel, rfl, by decide +kernel, by decide +kernel⟩

abbrev s_law_draws : Stmt := topS 31
abbrev N_law_draws : List Str := ["_law_script", "_law_turn", "_law_many", "_law_cells", "_law_lefts", "_law_found", "_law_k", "_law_at", "_law_number", "_law_cell"]
theorem sc_law_draws : FnScope N_law_draws ["_law_script", "_law_turn", "_law_many"] (defScope s_law_draws) := ⟨rfl, rfl, rfl, by decide +kernel, rfl, by decide +kernel, by decide +kernel⟩

theorem cut_to (ns : List Int) (k : Nat) : cutV (ns.map V.int) none (some (k : Int)) = (ns.take k).map V.int := by
  unfold cutV
  rw [HT.sIx_nat, HT.sIx_none, List.drop_zero, Nat.sub_zero, List.map_take]
  exact (List.take_eq_take_iff).mpr (by omega)
theorem cut_ints (ns : List Int) (lo hi : Option Int) : ∃ ms : List Int, cutV (ns.map V.int) lo hi = ms.map V.int ∧ ms.length ≤ ns.length := by
  refine ⟨(ns.drop (HT.sIx (ns.map V.int).length 0 lo)).take (HT.sIx (ns.map V.int).length (ns.map V.int).length hi - HT.sIx (ns.map V.int).length 0 lo), ?_, ?_⟩
  · unfold cutV
    rw [List.map_take, List.map_drop]
  · rw [List.length_take, List.length_drop]
    omega
def sp_mix : Sp := fun vs H Q _ => ∃ (c : Int) (t : Nat), vs = [.int c, .int t] ∧ t ≤ 5000 ∧ ∀ n : Int, 0 ≤ n → n < 2147483629 → Q (.int n) H
def sp_draws (K : PySem.W.Frag) : Sp := fun vs H Q _ => ∃ (a : Addr) (ns : List Int) (t m : Nat), vs = [.ref a, .int t, .int m] ∧ SqL K H a (ns.map V.int) ∧ ns.length ≤ 1000 ∧ t ≤ 1000 ∧ m ≤ 1000 ∧
  ∀ H' p ds, Same H H' → H p = none → H' p = some (LI ds) → Q (.ref p) H'
section
variable {P : Program} {w : World} {K : PySem.W.Frag} {mg : Str → Option Value} {base : Heap}
theorem ok_mix {f : Addr} {fd : FuncData} {k : Nat} (D : Def K mg "_law_mix" s_law_mix ["_law_cell", "_law_turn"] f fd) : FnOk P w K mg base CX0 (k + 1) f fd ["_law_cell", "_law_turn"] sp_mix := by
  refine D.F.ok sc_law_mix (fun vs H Q E h => ?_) (fun cdv A outer s H vs Q E hr h => ?_)
  · obtain ⟨c, t, rfl, _⟩ := h
    rfl
  · obtain ⟨c, t, rfl, ht, q⟩ := h
    have mb : ∀ z : Int, -(2 ^ 64) < z % 2147483647 ∧ z % 2147483647 < 2 ^ 64 := fun z => by omega
    refine ⟨_, (pss_cons (ps_set (i := 2) sc_law_mix.nd rfl (Or.inl rfl) (pe_op op_mod (pe_op op_mul (pe_op op_add (pe_op op_add (pe_op op_mod (pv 0) pe_int) (pe_op op_mul (pe_op op_mul (pv 1) (pv 1)) pe_int)) pe_int) pe_int) pe_int))
  (pss_one (ps_ret (pe_op op_mod (pe_op op_add (pe_op op_mul (pv 2) (pv 2)) (pe_op op_mul pe_int (pv 1))) pe_int)))), ?_⟩
    refine ⟨_, rfl, _, _, rfl, rfl, (by show (0 : Int) < _; decide), _, rfl, _, rfl, _, _, rfl, rfl, .inl ⟨by omega, by omega⟩, _, _, rfl, rfl, .inr ⟨by decide, by decide⟩, _, _, rfl, rfl, _, _, rfl, rfl, _, _, rfl, rfl, .inr ⟨by decide, by decide⟩, _, _, rfl, rfl, (by show (0 : Int) < _; decide), ?_⟩
    refine ⟨_, rfl, _, rfl, _, _, rfl, rfl, .inl (mb _), _, rfl, _, _, rfl, rfl, .inl ⟨by decide, by decide⟩, _, _, rfl, rfl, _, _, rfl, rfl, (by show (0 : Int) < _; decide), ?_⟩
    exact q _ (Int.emod_nonneg _ (by decide)) (Int.emod_lt_of_pos _ (by decide))
theorem ok_draws {f f1 : Addr} {fd fd1 : FuncData} {k : Nat} (M : Names mg) (D : Def K mg "_law_draws" s_law_draws ["_law_script", "_law_turn", "_law_many"] f fd) (D_law_mix : Def K mg "_law_mix" s_law_mix ["_law_cell", "_law_turn"] f1 fd1) :
    FnOk P w K mg base CX0 (k + 2) f fd ["_law_script", "_law_turn", "_law_many"] (sp_draws K) := by
  have G_law_mix : FnOk P w K mg base CX0 (k + 1) f1 fd1 ["_law_cell", "_law_turn"] sp_mix := ok_mix D_law_mix
  refine D.F.ok sc_law_draws (fun vs H Q E h => ?_) (fun cdv A outer s H vs Q E hr h => ?_)
  · obtain ⟨a, ns, t, m, rfl, _⟩ := h
    rfl
  · obtain ⟨a, ns, t, m, rfl, hS, hl, ht, hm, q⟩ := h
    refine ⟨_, (pss_cons (ps_set (i := 3) sc_law_draws.nd rfl (Or.inl rfl) (pe_op op_cat (pe_slice sl_list (pv 0) po_none (po_some pe_int)) (pe_lst (pa_cons (pv 1) pa_nil))))
  (pss_cons (ps_setLc (i := 4) (own := [("_law_cell", 9)]) (by rfl) sc_law_draws.nd rfl rfl (sw_true rfl rfl rfl (by decide +kernel)) (pi_list (pv 3)) (blkOk_by (own := [("_law_cell", 9)]) (N := N_law_draws) (sc := defScope s_law_draws) (by decide +kernel)) (fun _ _ _ _ _ => (pg_name (i := 9) sc_law_draws.nd rfl (Or.inl rfl))) (fun _ _ _ _ _ => pts_nil) (fun _ _ _ _ _ => (pe_op op_fdiv (pv 9) pe_int)))
  (pss_cons (ps_set (i := 5) sc_law_draws.nd rfl (Or.inl rfl) (pe_lst pa_nil))
  (pss_cons (ps_for PassesOwn.never rfl (pi_range1 (by rfl) M.range (pa_cons (pe_op op_add (pv 1) (pv 2)) pa_nil)) (pg_name (i := 6) sc_law_draws.nd rfl (Or.inl rfl))
   (pss_cons (ps_set (i := 7) sc_law_draws.nd rfl (Or.inl rfl) (pe_op op_mod (pv 6) (pe_callB call_len_seq (by rfl) M.len (by decide +kernel) (pa_cons (pv 3) pa_nil))))
  (pss_cons (ps_set (i := 8) sc_law_draws.nd rfl (Or.inl rfl) (pe_call G_law_mix hr (by rfl) D_law_mix.g D_law_mix.F.kp D_law_mix.b .nil pass0 (pa_cons (pe_ix ix_list (pv 3) (pv 7) (fun _ _ => rfl)) (pa_cons (pv 6) pa_nil))))
  (pss_cons (ps_set (i := 8) sc_law_draws.nd rfl (Or.inl rfl) (pe_op op_mod (pe_op op_add (pe_op op_mul (pv 8) (pv 8)) (pe_op op_mul pe_int (pv 6))) pe_int))
  (pss_cutI (ps_if (PW.pt (pw_and (pt_cmpR op_ge (pe_ix ix_list (pv 3) (pv 7) (fun _ _ => rfl)) (pe_op op_pow pe_int pe_int) (nomark _)) (pw_and1 (pt_cmpR op_gt (pe_ix ix_list (pv 4) (pv 7) (fun _ _ => rfl)) pe_int (nomark _)))))
   (pss_cons (ps_set (i := 8) sc_law_draws.nd rfl (Or.inl rfl) (pe_op op_mod (pe_ix ix_list (pv 4) (pv 7) (fun _ _ => rfl)) pe_int))
  (pss_one (ps_asg (pe_op op_fdivW (pe_ix ix_list (pv 4) (pv 7) (fun _ _ => rfl)) pe_int) (pg_sub (pv 4) (pv 7) set_list))))
   pss_nil)
  (pss_one (ps_expr (pe_bm PySem.F.plainAttrs_list PySem.F.slot_list_append PySem.F.type_list_append mt_append (pv 5) (pa_cons (pv 8) pa_nil)))))))))
  (pss_one (ps_ret (pe_slice sl_list (pv 5) (po_some (pv 1)) po_none))))))), ?_⟩
    refine ⟨.ref a, rfl, 63, rfl, a, ns.map V.int, rfl, hS, fun c nc => ?_⟩
    refine ⟨.int t, rfl, by show 1 ≤ sizeLine; decide, fun u nu => ?_⟩
    have hcu : c ≠ u := ne_of_none upd_same nu
    have hc : (upd (upd H c (.lst (cutV (ns.map V.int) none (some 63)))) u (.lst [.int (t : Int)])) c = some (.lst (cutV (ns.map V.int) none (some 63))) := by
      rw [upd_ne hcu]
      exact upd_same
    have hlen := cutV_length (ns.map V.int) none (some 63)
    rw [List.length_map] at hlen
    refine ⟨c, u, _, _, rfl, rfl, hc, upd_same, szL (by rw [show ([V.int (t : Int)] : List V).length = 1 from rfl]; omega), fun e ne => ?_⟩
    obtain ⟨cs, ecs, hcs1, hcs2⟩ : ∃ cs : List Int, cutV (ns.map V.int) none (some 63) ++ [V.int (t : Int)] = cs.map V.int ∧ 0 < cs.length ∧ cs.length ≤ 2000 := by
      refine ⟨ns.take 63 ++ [(t : Int)], ?_, ?_, ?_⟩
      · rw [show (63 : Int) = ((63 : Nat) : Int) from rfl, cut_to, List.map_append]
        rfl
      · rw [List.length_append]
        exact Nat.succ_pos _
      · rw [List.length_append, List.length_take, List.length_singleton]
        omega
    have s1 : Same H (upd (upd (upd H c (.lst (cutV (ns.map V.int) none (some 63)))) u (.lst [.int (t : Int)])) e (.lst (cutV (ns.map V.int) none (some 63) ++ [.int (t : Int)]))) :=
      ((same_upd nc).trans (same_upd nu)).trans (same_upd ne)
    have he1 : (upd (upd (upd H c (.lst (cutV (ns.map V.int) none (some 63)))) u (.lst [.int (t : Int)])) e (.lst (cutV (ns.map V.int) none (some 63) ++ [.int (t : Int)]))) e = some (LI cs) := by
      rw [upd_same, ecs]
    generalize (upd (upd (upd H c (.lst (cutV (ns.map V.int) none (some 63)))) u (.lst [.int (t : Int)])) e (.lst (cutV (ns.map V.int) none (some 63) ++ [.int (t : Int)]))) = H2 at s1 he1 ⊢
    -- lefts
    refine ⟨.ref e, rfl, e, rfl, ⟨_, SqL.of he1⟩, fun B nB => lc_list (xs := cs.map V.int) (fun i H' => Same H2 H' ∧ ∃ ls : List Int, H' B = some (LI ls) ∧ ls.length = i) ⟨same_upd nB, [], upd_same, rfl⟩ (fun i H' _ hp => SqL.of (hp.1 _ _ he1)) (fun i x H' hx hp => ?_) (fun H3 hp => ?_)⟩
    · obtain ⟨s3, ls, hB, hls⟩ := hp
      obtain ⟨n, hn, rfl⟩ := of_get_ints hx
      have hi : i < cs.length := (List.getElem?_eq_some_iff.mp hn).1
      refine ⟨rfl, _, rfl, _, _, rfl, rfl, ⟨by decide, by decide⟩, _, hB, szL' (by rw [List.length_map]; omega), sm_new s3 nB, ls ++ [n / 100000], ?_, by rw [List.length_append, hls]; rfl⟩
      exact at_app
    · obtain ⟨s3, ls, hB, hls⟩ := hp
      rw [List.length_map] at hls
      have s3' := s1.trans s3
      have he3 := s3 _ _ he1
      have neB : e ≠ B := ne_of_none he1 nB
      have nBH : H B = none := s1.free nB
      -- found = []
      refine ⟨Nat.zero_le _, fun o no => ?_⟩
      have noB : B ≠ o := ne_of_none hB no
      have noe : e ≠ o := ne_of_none he3 no
      have noH : H o = none := s3'.free no
      have s4 := s3'.trans (same_upd (o := .lst []) no)
      have he4 := (same_upd (o := .lst []) no) _ _ he3
      have hB4 := (same_upd (o := .lst []) no) _ _ hB
      have ho4 : (upd H3 o (.lst [])) o = some (LI []) := upd_same
      generalize (upd H3 o (.lst [])) = H4 at s4 he4 hB4 ho4 ⊢
      refine ⟨_, rfl, _, rfl, _, _, rfl, rfl, _, rfl, by omega, by omega, for_range (n := ((t : Int) + (m : Int)).toNat) (fun i σ H' => ∃ y6 y7 y8, σ = [some (.ref a), some (.int t), some (.int m), some (.ref e), some (.ref B), some (.ref o), y6, y7, y8, none] ∧ Same H H' ∧ H' e = some (LI cs) ∧
        (∃ ds : List Int, H' o = some (LI ds) ∧ ds.length ≤ i) ∧ ∃ ls : List Int, H' B = some (LI ls) ∧ ls.length = cs.length) ⟨none, none, none, rfl, s4, he4, ⟨[], ho4, Nat.zero_le _⟩, ls, hB4, hls⟩ (fun i σ H5 hi hp => ?_) (fun σ H5 hp => ?_)⟩
      · obtain ⟨y6, y7, y8, rfl, s5, he5, ⟨ds, ho5, hds⟩, ls, hB5, hls⟩ := hp
        obtain ⟨j, hj, ej⟩ := mod_at (i := (0 : Int) + (i : Nat)) (n := (cs.map V.int).length) (by rw [List.length_map]; omega)
        rw [List.length_map] at hj
        refine ⟨_, rfl, _, rfl, e, _, rfl, .inl (SqL.of he5), _, _, rfl, rfl, by rw [List.length_map]; omega, ?_⟩
        -- mix
        refine ⟨_, rfl, _, rfl, e, _, _, _, rfl, rfl, SqL.of he5, at_of ej (getD_ints hj), _, rfl, _, i, by show [V.int _, V.int (0 + (i : Int))] = _; rw [Int.zero_add], by omega, fun n n0 n1 => ?_⟩
        refine ⟨_, rfl, _, rfl, _, _, rfl, rfl, .inl ⟨by omega, by omega⟩, _, rfl, _, _, rfl, rfl, .inl ⟨by decide, by decide⟩, _, _, rfl, rfl, _, _, rfl, rfl, (by show (0 : Int) < _; decide), ?_⟩
        refine ⟨fun σ' H' => ∃ n8 : Int, σ' = [some (.ref a), some (.int t), some (.int m), some (.ref e), some (.ref B), some (.ref o), some (.int (0 + (i : Nat))), some (.int ((0 + (i : Int)) % ((cs.map V.int).length : Int))), some (.int n8), none] ∧ Same H H' ∧ H' e = some (LI cs) ∧ H' o = some (LI ds) ∧ ∃ ls : List Int, H' B = some (LI ls) ∧ ls.length = cs.length, ?_, fun σ6 H6 hI => ?_⟩
        · refine ⟨_, rfl, _, rfl, e, _, _, _, rfl, rfl, SqL.of he5, at_of ej (getD_ints hj), _, _, rfl, rfl, ⟨by decide, by decide, by decide⟩, _, _, rfl, rfl, _, rfl, ite2 (fun _ => ?_) (fun _ => ?_)⟩
          · refine ⟨_, rfl, _, rfl, B, _, _, _, rfl, rfl, SqL.of hB5, at_of ej (getD_ints (ns := ls) (by omega)), _, _, rfl, rfl, _, rfl, ite2 (fun _ => ?_) (fun _ => ?_)⟩
            · refine ⟨_, rfl, _, rfl, B, _, _, _, rfl, rfl, SqL.of hB5, at_of ej (getD_ints (ns := ls) (by omega)), _, _, rfl, rfl, (by show (0 : Int) < _; decide), ?_⟩
              refine ⟨_, rfl, _, rfl, B, _, _, _, rfl, rfl, SqL.of hB5, at_of ej (getD_ints (ns := ls) (by omega)), _, _, rfl, rfl, wide_div (b := 32) (by decide) (by decide) (by decide) (by decide), _, rfl, _, rfl, B, _, _, j, rfl, rfl, hB5, by rw [ej, List.length_map]; exact ixN_nat (by omega), ?_⟩
              refine ⟨_, rfl, sm_new s5 nBH, ?_, ?_, ls.set j (ls[j] / 2147483587), at_set, by rw [List.length_set]; exact hls⟩
              · rw [upd_ne neB]
                exact he5
              · rw [upd_ne noB.symm]
                exact ho5
            · exact ⟨_, rfl, s5, he5, ho5, ls, hB5, hls⟩
          · exact ⟨_, rfl, s5, he5, ho5, ls, hB5, hls⟩
        · obtain ⟨n8, rfl, s6, he6, ho6, ls, hB6, hls⟩ := hI
          refine ⟨_, rfl, .inl ⟨rfl, _, SqL.of ho6⟩, _, rfl, o, _, _, rfl, rfl, ho6, szL' (by rw [List.length_map]; omega), ?_⟩
          refine ⟨_, _, _, rfl, sm_new s6 noH, ?_, ⟨ds ++ [n8], at_app, by rw [List.length_append, List.length_singleton]; omega⟩, ls, ?_, hls⟩
          · rw [upd_ne noe]
            exact he6
          · rw [upd_ne noB]
            exact hB6
      · obtain ⟨y6, y7, y8, rfl, s5, _, ⟨ds, ho5, hds⟩, _⟩ := hp
        refine ⟨_, rfl, _, rfl, _, rfl, o, _, rfl, SqL.of ho5, fun R nR => ?_⟩
        obtain ⟨ms, ems, _⟩ := cut_ints ds (some (t : Int)) none
        rw [ems]
        exact q _ R ms (s5.trans (same_upd nR)) (s5.free nR) upd_same
end
/-! ### _law_cut, _law_content, _law_price, _law_tiers, _law_want -/
abbrev s_law_cut : Stmt := topS 33
abbrev N_law_cut : List Str := ["_law_row", "_law_every", "_law_one"]
theorem sc_law_cut : FnScope N_law_cut ["_law_row"] (defScope s_law_cut) := ⟨rfl, rfl, rfl, by decide +kernel, rfl, by decide +kernel, by decide +kernel⟩

def sp_cut : Sp := fun vs H Q _ => ∃ (r : Addr) (ws : List Int), vs = [.ref r] ∧ H r = some (LI ws) ∧ Small ws ∧ 1 ≤ ws.length ∧ ws.length ≤ 1000 ∧
  ∀ H' ws', SameBut r H H' → H' r = some (LI ws') → ws'.length = ws.length → Small ws' → casesM ws' ≤ 400 → LeW ws' ws → Q (.ref r) H'
theorem set_le : ∀ {ws : List Int} {j : Nat} {x y : Int}, (∀ x ∈ ws, 0 ≤ x) → ws[j]? = some x → 0 ≤ y → y ≤ x → LeW (ws.set j y) ws
  | [], _, _, _, _, h, _, _ => by simp at h
  | a :: r, 0, x, y, h0, h, hy, hle => by
    cases Option.some.inj h
    exact ⟨hy, hle, LeW.refl fun z hz => h0 z (List.mem_cons_of_mem _ hz)⟩
  | a :: r, j + 1, x, y, h0, h, hy, hle => ⟨h0 a List.mem_cons_self, Int.le_refl _, set_le (fun z hz => h0 z (List.mem_cons_of_mem _ hz)) (show r[j]? = some x from h) hy hle⟩
theorem cut_body {ws : List Int} (sm : Small ws) (hc : casesM ws > 400) {mx : Int} (hmx : mx ∈ ws) (hle : ∀ y, y ∈ ws → y ≤ mx) : ∃ j : Nat, ws[j]? = some mx ∧ (∀ (m' : Nat) (z' : V), m' < j → (ws.map V.int)[m']? = some z' → eqV z' (.int mx) = false) ∧ j < ws.length ∧ Small (ws.set j (mx - 1)) ∧ (ws.set j (mx - 1)).sum < ws.sum ∧ LeW (ws.set j (mx - 1)) ws := by
  obtain ⟨j, h1, h2⟩ := first_at hmx
  have pos : 1 ≤ mx := by
    rcases Int.lt_or_le mx 1 with z | z
    · have e : casesM ws = 1 := casesM_zero ws 1 fun w hw => by
        have a1 := hle w hw
        have a2 := sm w hw
        omega
      omega
    · exact z
  have b := sm mx hmx
  refine ⟨j, h1, fun m' z' hm hz => ?_, (List.getElem?_eq_some_iff.mp h1).1, fun w hw => ?_, ?_, set_le (fun x hx => (sm x hx).1) h1 (by omega) (by omega)⟩
  · obtain ⟨y, hy, rfl⟩ := of_get_ints hz
    have := h2 m' y hm hy
    show (y == mx) = false
    exact beq_eq_false_iff_ne.mpr this
  · rcases List.mem_or_eq_of_mem_set hw with z | z
    · exact sm w z
    · omega
  · rw [sum_set h1]
    omega
section
variable {P : Program} {w : World} {K : PySem.W.Frag} {mg : Str → Option Value} {base : Heap}
theorem ok_cut {f : Addr} {fd : FuncData} {k : Nat} (M : Names mg) (D : Def K mg "_law_cut" s_law_cut ["_law_row"] f fd) : FnOk P w K mg base CX0 (k + 1) f fd ["_law_row"] sp_cut := by
  refine D.F.ok sc_law_cut (fun vs H Q E h => ?_) (fun cdv A outer s H vs Q E hr h => ?_)
  · obtain ⟨r, ws, rfl, _⟩ := h
    rfl
  · obtain ⟨r, ws, rfl, hrr, sm, hl1, hl2, q⟩ := h
    refine ⟨_, (pss_cons (ps_set (i := 1) sc_law_cut.nd rfl (Or.inl rfl) pe_int)
  (pss_cons (ps_while PassesOwn.never (pt_cmpR op_gt (pv 1) pe_int (nomark _))
   (pss_cons (ps_set (i := 1) sc_law_cut.nd rfl (Or.inl rfl) pe_int)
  (pss_cons (ps_for PassesOwn.never rfl (pi_list (pv 0)) (pg_name (i := 2) sc_law_cut.nd rfl (Or.inl rfl))
   (pss_one (ps_set (i := 1) sc_law_cut.nd rfl (Or.inl rfl) (pe_op op_mul (pv 1) (pe_op op_add (pv 2) pe_int)))))
  (pss_one (ps_if (pt_cmpR op_gt (pv 1) pe_int (nomark _))
   (pss_one (ps_asg (pe_op op_sub (pe_callB (cr_max rfl) (by rfl) M.max (by decide +kernel) (pa_cons (pv 0) pa_nil)) pe_int) (pg_sub (pv 0) (pe_bm PySem.F.plainAttrs_list PySem.F.slot_list_index PySem.F.type_list_index mt_index (pv 0) (pa_cons (pe_callB (cr_max rfl) (by rfl) M.max (by decide +kernel) (pa_cons (pv 0) pa_nil)) pa_nil)) set_list)))
   pss_nil)))))
  (pss_one (ps_ret (pv 0))))), ?_⟩
    refine ⟨fun μ σ H' => ∃ (ev : Int) (y2 : Option V) (us : List Int), σ = [some (.ref r), some (.int ev), y2] ∧ SameBut r H H' ∧ H' r = some (LI us) ∧ us.length = ws.length ∧ Small us ∧ LeW us ws ∧ ((ev > 400 ∧ μ = us.sum.toNat + 1) ∨ (ev ≤ 400 ∧ casesM us ≤ 400 ∧ μ = 0)), ⟨_, 401, none, ws, rfl, .refl _ _, hrr, rfl, sm, LeW.refl (fun x hx => (sm x hx).1), .inl ⟨by decide, rfl⟩⟩, fun μ σ H1 hW => ?_⟩
    obtain ⟨ev, y2, us, rfl, s1, hr1, hlu, smu, leu, hμ⟩ := hW
    refine ⟨_, rfl, _, _, rfl, rfl, _, rfl, ite2 (fun c => ?_) (fun c => ?_)⟩
    · have c' : ev > 400 := of_decide_eq_true c
      have eμ : μ = us.sum.toNat + 1 := by
        rcases hμ with h | h
        · exact h.2
        · exact absurd h.1 (by omega)
      have us0 := sumI_nonneg fun x hx => (smu x hx).1
      refine ⟨fun σ' H' => ∃ μ', μ' < μ ∧ ∃ (ev : Int) (y2 : Option V) (us : List Int), σ' = [some (.ref r), some (.int ev), y2] ∧ SameBut r H H' ∧ H' r = some (LI us) ∧ us.length = ws.length ∧ Small us ∧ LeW us ws ∧ ((ev > 400 ∧ μ' = us.sum.toNat + 1) ∨ (ev ≤ 400 ∧ casesM us ≤ 400 ∧ μ' = 0)), fun σ' H' hN => hN, ?_⟩
      refine ⟨_, rfl, r, rfl, ⟨_, SqL.of hr1⟩, for_list (K := K) (a := r) (xs := us.map V.int) (fun i σ H' => ∃ y, σ = [some (.ref r), some (.int (casesM (us.take i))), y] ∧ H' = H1) ⟨y2, rfl, rfl⟩ (fun i σ H' _ hp => ?_) (fun i x σ H' hx hp => ?_) (fun σ H' hp => ?_)⟩
      · obtain ⟨y, _, rfl⟩ := hp
        exact SqL.of hr1
      · obtain ⟨y, rfl, rfl⟩ := hp
        obtain ⟨n, hn, rfl⟩ := of_get_ints hx
        have b := smu n (List.mem_of_getElem? hn)
        refine ⟨_, rfl, _, rfl, _, _, rfl, rfl, _, _, rfl, rfl, .inr ⟨by omega, by omega⟩, some (.int n), ?_, rfl⟩
        rw [casesM_take hn]
        rfl
      · obtain ⟨y, rfl, rfl⟩ := hp
        rw [List.length_map, List.take_length]
        refine ⟨_, rfl, _, _, rfl, rfl, _, rfl, ite2 (fun c2 => ?_) (fun c2 => ?_)⟩
        · have c2' : casesM us > 400 := of_decide_eq_true c2
          refine ⟨_, rfl, r, us, rfl, SqL.of hr1, by omega, fun mx hmx hle => ⟨_, _, rfl, rfl, _, rfl, _, rfl, .inl ⟨rfl, _, SqL.of hr1⟩, _, rfl, r, us, rfl, SqL.of hr1, by omega, fun mx2 hmx2 hle2 => ?_⟩⟩
          have emx : mx2 = mx := Int.le_antisymm (hle mx2 hmx2) (hle2 mx hmx)
          subst emx
          obtain ⟨j, b1, b2, b3, b4, b5, b6⟩ := cut_body smu c2' hmx hle
          have p0 := sumI_nonneg fun x hx => (b4 x hx).1
          refine ⟨r, _, _, j, _, rfl, rfl, SqL.of hr1, rfl, by simp [flatV], get_ints b1, by show (mx2 == mx2) = true; exact beq_self_eq_true _, b2, r, _, _, j, rfl, rfl, hr1, by rw [List.length_map]; exact ixN_nat b3, ?_⟩
          refine ⟨(us.set j (mx2 - 1)).sum.toNat + 1, by omega, _, _, us.set j (mx2 - 1), rfl, s1.trans .upd, at_set, by rw [List.length_set]; exact hlu, b4, b6.trans leu, .inl ⟨c2', rfl⟩⟩
        · have c2' : casesM us ≤ 400 := Int.not_lt.mp fun z => c2 (decide_eq_true z)
          exact ⟨0, by omega, _, _, us, rfl, s1, hr1, hlu, smu, leu, .inr ⟨c2', c2', rfl⟩⟩
    · have c' : ev ≤ 400 := Int.not_lt.mp fun z => c (decide_eq_true z)
      rcases hμ with h | h
      · exact absurd h.1 (by omega)
      · exact ⟨_, rfl, q H1 us s1 hr1 hlu smu h.2.1 leu⟩
end
/-! ### tiers that rise -/
def sp_tiers : Sp := fun vs H Q _ => ∃ (a : Addr) (ns : List Int), vs = [.ref a] ∧ H a = some (LI ns) ∧
  ∀ H' p ts ns', SameBut a H H' → H p = none → TiersAt (cutH a H') p ts → GoodT ts → PriceT ts → H' a = some (LI ns') → Q (.ref p) H'
structure RiseT (ts : List (Int × Int)) (z : Int) (i : Nat) : Prop where
  few : ts.length ≤ i
  none : ts = [] → z = 1 ∧ i = 0
  one : ∀ t, ts[0]? = some t → t.1 = 1
  most : ∀ t ∈ ts, t.1 ≤ 12 ∧ t.1 < z
  rise : ∀ (i : Nat) a b, ts[i]? = some a → ts[i + 1]? = some b → a.1 < b.1
  pr : PriceT ts
theorem RiseT.push {ts : List (Int × Int)} {z z' p : Int} {i : Nat} (h : RiseT ts z i) (hz : z < 13) (hz' : z < z') (h0 : 0 ≤ p) (h1 : p < 1000000000000) : RiseT (ts ++ [(z, p)]) z' (i + 1) := by
  refine ⟨?_, fun e => ?_, fun t e => ?_, fun t ht => ?_, fun j a b ha hb => ?_, fun t ht => ?_⟩
  · have := h.few
    rw [List.length_append, List.length_singleton]
    omega
  · simp at e
  · cases hts : ts with
    | nil =>
      rw [hts] at e
      cases Option.some.inj e
      exact (h.none hts).1
    | cons x r =>
      rw [hts] at e
      exact h.one t (by rw [hts]; exact e)
  · rcases List.mem_append.mp ht with m | m
    · have := h.most t m
      exact ⟨this.1, by omega⟩
    · rw [List.mem_singleton.mp m]
      exact ⟨by show z ≤ 12; omega, hz'⟩
  · by_cases c : j + 1 < ts.length
    · rw [List.getElem?_append_left (by omega)] at ha
      rw [List.getElem?_append_left c] at hb
      exact h.rise j a b ha hb
    · have hj : j + 1 = ts.length := by
        have := (List.getElem?_eq_some_iff.mp hb).1
        rw [List.length_append, List.length_singleton] at this
        omega
      rw [List.getElem?_append_left (by omega)] at ha
      rw [List.getElem?_append_right (by omega), hj, Nat.sub_self] at hb
      cases Option.some.inj hb
      exact (h.most a (List.mem_of_getElem? ha)).2
  · rcases List.mem_append.mp ht with m | m
    · exact h.pr t m
    · rw [List.mem_singleton.mp m]
      exact ⟨h0, h1⟩
theorem RiseT.pass {ts : List (Int × Int)} {z z' : Int} {i : Nat} (h : RiseT ts z i) (hz : ¬z < 13) (hz' : z < z') : RiseT ts z' (i + 1) := by
  refine ⟨by have := h.few; omega, fun e => ?_, h.one, fun t ht => ?_, h.rise, h.pr⟩
  · have := h.none e
    omega
  · have := h.most t ht
    exact ⟨this.1, by omega⟩
theorem RiseT.good {ts : List (Int × Int)} {z : Int} {i : Nat} (h : RiseT ts z i) (h1 : 1 ≤ i) (h4 : i ≤ 4) : GoodT ts := by
  refine ⟨?_, by have := h.few; omega, h.one, fun t ht => (h.most t ht).1, h.rise⟩
  rcases Nat.eq_zero_or_pos ts.length with z | z
  · have := (h.none (List.eq_nil_of_length_eq_zero z)).2
    omega
  · exact z
abbrev s_law_content : Stmt := topS 34
abbrev N_law_content : List Str := ["_law_draws_here", "_law_many", "_law_most", "_law_number", "_law_content_here", "_law_thing"]
theorem sc_law_content : FnScope N_law_content ["_law_draws_here", "_law_many", "_law_most"] (defScope s_law_content) := ⟨rfl, rfl, rfl, by decide +kernel, rfl, by decide +kernel, by decide +kernel⟩

def sp_content : Sp := fun vs H Q _ => ∃ (a : Addr) (ns : List Int) (m most : Nat), vs = [.ref a, .int m, .int most] ∧ H a = some (LI ns) ∧ 1 ≤ m ∧ m ≤ 4 ∧ 1 ≤ most ∧ most ≤ 9 ∧
  ∀ H' p ws ns', SameBut a H H' → H p = none → p ≠ a → H' p = some (LI ws) → H' a = some (LI ns') → ws.length = m → Small ws → Q (.ref p) H'
theorem menu4s {a b c e : Int} {j : Nat} (h : j < 4) (h1 : 0 ≤ a ∧ a ≤ 9) (h2 : 0 ≤ b ∧ b ≤ 9) (h3 : 0 ≤ c ∧ c ≤ 9) (h4 : 0 ≤ e ∧ e ≤ 9) : ∃ v : Int, ([V.int a, V.int b, V.int c, V.int e] : List V)[j]? = some (.int v) ∧ 0 ≤ v ∧ v ≤ 9 :=
  match j, h with
  | 0, _ => ⟨a, rfl, h1⟩
  | 1, _ => ⟨b, rfl, h2⟩
  | 2, _ => ⟨c, rfl, h3⟩
  | 3, _ => ⟨e, rfl, h4⟩
section
variable {P : Program} {w : World} {K : PySem.W.Frag} {mg : Str → Option Value} {base : Heap}
theorem ok_content {f f1 f2 : Addr} {fd fd1 fd2 : FuncData} {k : Nat} (M : Names mg) (D : Def K mg "_law_content" s_law_content ["_law_draws_here", "_law_many", "_law_most"] f fd) (D_law_pop : Def K mg "_law_pop" s_law_pop ["_law_draws_here"] f1 fd1) (D_law_cut : Def K mg "_law_cut" s_law_cut ["_law_row"] f2 fd2) :
    FnOk P w K mg base CX0 (k + 2) f fd ["_law_draws_here", "_law_many", "_law_most"] sp_content := by
  have G_law_pop : FnOk P w K mg base CX0 (k + 1) f1 fd1 ["_law_draws_here"] sp_pop := ok_pop D_law_pop
  have G_law_cut : FnOk P w K mg base CX0 (k + 1) f2 fd2 ["_law_row"] sp_cut := ok_cut M D_law_cut
  refine D.F.ok sc_law_content (fun vs H Q E h => ?_) (fun cdv A outer s H vs Q E hr h => ?_)
  · obtain ⟨a, ns, m, most, rfl, _⟩ := h
    rfl
  · obtain ⟨a, ns, m, most, rfl, ha, hm1, hm4, hmo1, hmo9, q⟩ := h
    refine ⟨_, (pss_cons (ps_set (i := 3) sc_law_content.nd rfl (Or.inl rfl) (pe_call G_law_pop hr (by rfl) D_law_pop.g D_law_pop.F.kp D_law_pop.b .nil pass0 (pa_cons (pv 0) pa_nil)))
  (pss_cons (ps_set (i := 4) sc_law_content.nd rfl (Or.inl rfl) (pe_lst pa_nil))
  (pss_cons (ps_for PassesOwn.never rfl (pi_range1 (by rfl) M.range (pa_cons (pv 1) pa_nil)) (pg_name (i := 5) sc_law_content.nd rfl (Or.inl rfl))
   (pss_cons (ps_expr (pe_bm PySem.F.plainAttrs_list PySem.F.slot_list_append PySem.F.type_list_append mt_append (pv 4) (pa_cons (pe_ix ix_list (pe_lst (pa_cons pe_int (pa_cons pe_int (pa_cons (pe_op op_add pe_int (pe_op op_mod (pv 3) (pv 2))) (pa_cons pe_int pa_nil))))) (pe_op op_mod (pe_op op_fdiv (pv 3) pe_int) pe_int) (fun _ _ => rfl)) pa_nil)))
  (pss_one (ps_set (i := 3) sc_law_content.nd rfl (Or.inl rfl) (pe_op op_fdiv (pv 3) pe_int)))))
  (pss_cutI (ps_if (pt_cmpR op_eq (pe_callB (cr_sum rfl) (by rfl) M.sum (by decide +kernel) (pa_cons (pv 4) pa_nil)) pe_int (nomark _))
   (pss_one (ps_asg pe_int (pg_sub (pv 4) (pe_op op_mod (pv 3) (pv 1)) set_list)))
   pss_nil)
  (pss_one (ps_ret (pe_call G_law_cut hr (by rfl) D_law_cut.g D_law_cut.F.kp D_law_cut.b .nil pass0 (pa_cons (pv 4) pa_nil)))))))), ?_⟩
    refine ⟨_, rfl, a, ns, rfl, ha, fun H1 s1 ha1 => ?_⟩
    generalize ns.headD 0 = n0
    generalize ns.tail = ns1 at ha1
    refine ⟨Nat.zero_le _, fun C nC => ?_⟩
    have nCa : C ≠ a := (ne_of_none ha1 nC).symm
    have nCH : H C = none := s1.free nC (by rw [ha1]; exact fun z => nomatch z)
    have s2 : SameBut a H (upd H1 C (.lst [])) := s1.trans (.of (same_upd nC))
    have ha2 : upd H1 C (.lst []) a = some (LI ns1) := (same_upd nC) _ _ ha1
    have hC2 : upd H1 C (.lst []) C = some (LI []) := upd_same
    generalize upd H1 C (.lst []) = H2 at s2 ha2 hC2 ⊢
    refine ⟨_, rfl, _, rfl, by omega, by omega, for_range (n := (m : Int).toNat) (fun i σ H' => ∃ (n : Int) (y5 : Option V) (ws : List Int), σ = [some (.ref a), some (.int m), some (.int most), some (.int n), some (.ref C), y5] ∧ SameBut a H H' ∧ H' a = some (LI ns1) ∧ H' C = some (LI ws) ∧ ws.length = i ∧ Small ws) ⟨n0, none, [], rfl, s2, ha2, hC2, rfl, fun w hw => nomatch hw⟩ (fun i σ H3 hi hp => ?_) (fun σ H3 hp => ?_)⟩
    · obtain ⟨n, y5, ws, rfl, s3, ha3, hC3, hl, sm⟩ := hp
      have mo0 : (0 : Int) < (most : Int) := by omega
      have r1 := Int.emod_nonneg n (show (most : Int) ≠ 0 by omega)
      have r2 := Int.emod_lt_of_pos n mo0
      refine ⟨_, rfl, .inl ⟨rfl, _, SqL.of hC3⟩, _, rfl, _, rfl, _, _, rfl, rfl, mo0, _, _, rfl, rfl, by show 4 ≤ sizeLine; decide, fun e ne => ?_⟩
      obtain ⟨j, hj, ej⟩ := mod_at (i := n / 16) (n := 4) (by decide)
      obtain ⟨v, hv, hv0, hv1⟩ := menu4s (a := 0) (b := 1) (c := 1 + n % (most : Int)) (e := 1) hj (by omega) (by omega) (by omega) (by omega)
      have se := same_upd (o := .lst [.int 0, .int 1, .int (1 + n % (most : Int)), .int 1]) ne
      have neC : C ≠ e := ne_of_none hC3 ne
      refine ⟨_, rfl, _, _, rfl, rfl, ⟨by decide, by decide⟩, _, _, rfl, rfl, (by show (0 : Int) < _; decide), e, _, _, _, rfl, rfl, SqL.of upd_same, at_of ej hv, C, _, _, rfl, rfl, se _ _ hC3, szL' (by rw [List.length_map]; omega), ?_⟩
      refine ⟨_, rfl, _, _, rfl, rfl, ⟨by decide, by decide⟩, _, _, ws ++ [v], rfl, (s3.trans (.of se)).new nCH, ?_, at_app, by rw [List.length_append, hl]; rfl, sm.app hv0 hv1⟩
      rw [upd_ne nCa.symm]
      exact se _ _ ha3
    · obtain ⟨n, y5, ws, rfl, s3, ha3, hC3, hl, sm⟩ := hp
      rw [Int.toNat_natCast] at hl
      refine ⟨fun σ' H' => ∃ (y5 : Option V) (ws : List Int), σ' = [some (.ref a), some (.int m), some (.int most), some (.int n), some (.ref C), y5] ∧ SameBut a H H' ∧ H' a = some (LI ns1) ∧ H' C = some (LI ws) ∧ ws.length = m ∧ Small ws, ?_, fun σ4 H4 hI => ?_⟩
      · refine ⟨_, rfl, C, ws, rfl, SqL.of hC3, rfl, _, rfl, ite2 (fun _ => ?_) (fun _ => ?_)⟩
        · obtain ⟨j, hj, ej⟩ := mod_at (i := n) (n := m) (by omega)
          refine ⟨_, rfl, _, rfl, _, rfl, _, _, rfl, rfl, (by show (0 : Int) < (m : Int); omega), C, _, _, j, rfl, rfl, hC3, (by rw [ej, List.length_map]; exact ixN_nat (by omega)), ?_⟩
          refine ⟨_, ws.set j 1, rfl, s3.new nCH, ?_, at_set, by rw [List.length_set]; exact hl, fun x hx => ?_⟩
          · rw [upd_ne nCa.symm]
            exact ha3
          · rcases List.mem_or_eq_of_mem_set hx with z | z
            · exact sm x z
            · rw [z]
              omega
        · exact ⟨_, ws, rfl, s3, ha3, hC3, hl, sm⟩
      · obtain ⟨y5, ws, rfl, s4, ha4, hC4, hl, sm⟩ := hI
        refine ⟨_, rfl, C, ws, rfl, hC4, sm, by omega, by omega, fun H5 ws' s5 hC5 hl5 sm5 _ _ => ?_⟩
        refine q H5 C ws' ns1 (fun b o n e => ?_) nCH nCa hC5 (s5 _ _ nCa.symm ha4) (by omega) sm5
        have hb := s4 b o n e
        exact s5 b o (fun z => by rw [z, nCH] at e; cases e) hb
end
abbrev s_law_price : Stmt := topS 35
abbrev N_law_price : List Str := ["_law_draws_here", "_law_number"]
theorem sc_law_price : FnScope N_law_price ["_law_draws_here"] (defScope s_law_price) := ⟨rfl, rfl, rfl, by decide +kernel, rfl, by decide +kernel, by decide +kernel⟩

def sp_price : Sp := fun vs H Q _ => ∃ (a : Addr) (ns : List Int), vs = [.ref a] ∧ H a = some (LI ns) ∧ ∀ H' ns' p, SameBut a H H' → H' a = some (LI ns') → 0 ≤ p → p < 1000000000000 → Q (.int p) H'
theorem menu5 {a b c d e : Int} {j : Nat} (h : j < 5) (h1 : 0 ≤ a ∧ a < 1000000000000) (h2 : 0 ≤ b ∧ b < 1000000000000) (h3 : 0 ≤ c ∧ c < 1000000000000) (h4 : 0 ≤ d ∧ d < 1000000000000) (h5 : 0 ≤ e ∧ e < 1000000000000) : ∃ v : Int, ([V.int a, V.int b, V.int c, V.int d, V.int e] : List V)[j]? = some (.int v) ∧ 0 ≤ v ∧ v < 1000000000000 :=
  match j, h with
  | 0, _ => ⟨a, rfl, h1⟩
  | 1, _ => ⟨b, rfl, h2⟩
  | 2, _ => ⟨c, rfl, h3⟩
  | 3, _ => ⟨d, rfl, h4⟩
  | 4, _ => ⟨e, rfl, h5⟩
section
variable {P : Program} {w : World} {K : PySem.W.Frag} {mg : Str → Option Value} {base : Heap}
theorem ok_price {f f1 : Addr} {fd fd1 : FuncData} {k : Nat} (D : Def K mg "_law_price" s_law_price ["_law_draws_here"] f fd) (D_law_pop : Def K mg "_law_pop" s_law_pop ["_law_draws_here"] f1 fd1) :
    FnOk P w K mg base CX0 (k + 2) f fd ["_law_draws_here"] sp_price := by
  have G_law_pop : FnOk P w K mg base CX0 (k + 1) f1 fd1 ["_law_draws_here"] sp_pop := ok_pop D_law_pop
  refine D.F.ok sc_law_price (fun vs H Q E h => ?_) (fun cdv A outer s H vs Q E hr h => ?_)
  · obtain ⟨a, ns, rfl, _⟩ := h
    rfl
  · obtain ⟨a, ns, rfl, ha, q⟩ := h
    refine ⟨_, (pss_cons (ps_set (i := 1) sc_law_price.nd rfl (Or.inl rfl) (pe_call G_law_pop hr (by rfl) D_law_pop.g D_law_pop.F.kp D_law_pop.b .nil pass0 (pa_cons (pv 0) pa_nil)))
  (pss_one (ps_ret (pe_ix ix_list (pe_lst (pa_cons (pe_op op_mod (pv 1) pe_int) (pa_cons (pe_op op_add pe_int (pe_op op_mod (pv 1) pe_int)) (pa_cons (pe_op op_mod (pv 1) pe_int) (pa_cons (pe_op op_mod (pe_op op_mul (pv 1) pe_int) (pe_op op_pow pe_int pe_int)) (pa_cons pe_int pa_nil)))))) (pe_op op_mod (pe_op op_fdiv (pv 1) pe_int) pe_int) (fun _ _ => rfl))))), ?_⟩
    refine ⟨_, rfl, a, ns, rfl, ha, fun H1 s1 ha1 => ?_⟩
    generalize ns.headD 0 = n
    have e12 : (10 : Int) ^ (12 : Int).toNat = 1000000000000 := by decide
    have e9 : (10 : Int) ^ (9 : Int).toNat = 1000000000 := by decide
    obtain ⟨j, hj, ej⟩ := mod_at (i := n / 12) (n := 5) (by decide)
    refine ⟨_, rfl, _, _, rfl, rfl, (by show (0 : Int) < _; decide), ?_⟩
    refine ⟨_, rfl, _, _, rfl, rfl, (by show (0 : Int) < _; decide), _, _, rfl, rfl, ?_⟩
    refine ⟨_, rfl, _, _, rfl, rfl, (by show (0 : Int) < _; decide), ?_⟩
    first
    | (refine ⟨_, rfl, _, _, rfl, rfl, .inr ⟨by decide, by decide⟩, _, _, rfl, rfl, ⟨by decide, by decide, by decide⟩, _, _, rfl, rfl, (by show (0 : Int) < _; decide), by show 5 ≤ sizeLine; decide, fun e ne => ?_⟩
       obtain ⟨v, hv, hv0, hv1⟩ := menu5 (a := n % 12) (b := 20 + n % 100) (c := n % 12) (d := n * 465 % 10 ^ (12 : Int).toNat) (e := 0) hj (by omega) (by omega) (by omega) (by rw [e12]; omega) (by omega)
       refine ⟨_, rfl, _, _, rfl, rfl, ⟨by decide, by decide⟩, _, _, rfl, rfl, (by show (0 : Int) < _; decide), e, _, _, _, rfl, rfl, SqL.of upd_same, at_of ej hv, ?_⟩
       exact q _ _ v (s1.trans (.of (same_upd ne))) (by rw [upd_ne (ne_of_none ha1 ne)]; exact ha1) hv0 hv1)
    | (refine ⟨_, rfl, _, _, rfl, rfl, ⟨by decide, by decide, by decide⟩, _, _, rfl, rfl, (by show (0 : Int) < _; decide), by show 5 ≤ sizeLine; decide, fun e ne => ?_⟩
       obtain ⟨v, hv, hv0, hv1⟩ := menu5 (a := n % 12) (b := 20 + n % 100) (c := n % 12) (d := n % 10 ^ (9 : Int).toNat) (e := 0) hj (by omega) (by omega) (by omega) (by rw [e9]; omega) (by omega)
       refine ⟨_, rfl, _, _, rfl, rfl, ⟨by decide, by decide⟩, _, _, rfl, rfl, (by show (0 : Int) < _; decide), e, _, _, _, rfl, rfl, SqL.of upd_same, at_of ej hv, ?_⟩
       exact q _ _ v (s1.trans (.of (same_upd ne))) (by rw [upd_ne (ne_of_none ha1 ne)]; exact ha1) hv0 hv1)
    | (refine ⟨_, rfl, _, rfl, _, _, rfl, rfl, ⟨by decide, by decide, by decide⟩, _, _, rfl, rfl, (by show (0 : Int) < _; decide), by show 5 ≤ sizeLine; decide, fun e ne => ?_⟩
       obtain ⟨v, hv, hv0, hv1⟩ := menu5 (a := n % 12) (b := 20 + n % 100) (c := n % 12) (d := n % 10 ^ (9 : Int).toNat) (e := 0) hj (by omega) (by omega) (by omega) (by rw [e9]; omega) (by omega)
       refine ⟨_, rfl, _, _, rfl, rfl, ⟨by decide, by decide⟩, _, _, rfl, rfl, (by show (0 : Int) < _; decide), e, _, _, _, rfl, rfl, SqL.of upd_same, at_of ej hv, ?_⟩
       exact q _ _ v (s1.trans (.of (same_upd ne))) (by rw [upd_ne (ne_of_none ha1 ne)]; exact ha1) hv0 hv1)
end
abbrev s_law_tiers : Stmt := topS 36
abbrev N_law_tiers : List Str := ["_law_draws_here", "_law_tiers_here", "_law_at", "_law_k"]
theorem sc_law_tiers : FnScope N_law_tiers ["_law_draws_here"] (defScope s_law_tiers) := ⟨rfl, rfl, rfl, by decide +kernel, rfl, by decide +kernel, by decide +kernel⟩

section
variable {P : Program} {w : World} {K : PySem.W.Frag} {mg : Str → Option Value} {base : Heap}
theorem ok_tiers {f f1 f2 : Addr} {fd fd1 fd2 : FuncData} {k : Nat} (M : Names mg) (D : Def K mg "_law_tiers" s_law_tiers ["_law_draws_here"] f fd) (D_law_price : Def K mg "_law_price" s_law_price ["_law_draws_here"] f1 fd1) (D_law_pop : Def K mg "_law_pop" s_law_pop ["_law_draws_here"] f2 fd2) :
    FnOk P w K mg base CX0 (k + 3) f fd ["_law_draws_here"] sp_tiers := by
  have G_law_price : FnOk P w K mg base CX0 (k + 2) f1 fd1 ["_law_draws_here"] sp_price := ok_price D_law_price D_law_pop
  have G_law_pop : FnOk P w K mg base CX0 (k + 2) f2 fd2 ["_law_draws_here"] sp_pop := ok_pop D_law_pop
  refine D.F.ok sc_law_tiers (fun vs H Q E h => ?_) (fun cdv A outer s H vs Q E hr h => ?_)
  · obtain ⟨a, ns, rfl, _⟩ := h
    rfl
  · obtain ⟨a, ns, rfl, ha, q⟩ := h
    refine ⟨_, (pss_cons (ps_set (i := 1) sc_law_tiers.nd rfl (Or.inl rfl) (pe_lst pa_nil))
  (pss_cons (ps_set (i := 2) sc_law_tiers.nd rfl (Or.inl rfl) pe_int)
  (pss_cons (ps_for PassesOwn.never rfl (pi_range1 (by rfl) M.range (pa_cons (pe_op op_add pe_int (pe_op op_mod (pe_call G_law_pop hr (by rfl) D_law_pop.g D_law_pop.F.kp D_law_pop.b .nil pass0 (pa_cons (pv 0) pa_nil)) pe_int)) pa_nil)) (pg_name (i := 3) sc_law_tiers.nd rfl (Or.inl rfl))
   (pss_cutI (ps_if (pt_cmpR op_lt (pv 2) pe_int (nomark _))
   (pss_one (ps_expr (pe_bm PySem.F.plainAttrs_list PySem.F.slot_list_append PySem.F.type_list_append mt_append (pv 1) (pa_cons (pe_tup (pa_cons (pv 2) (pa_cons (pe_call G_law_price hr (by rfl) D_law_price.g D_law_price.F.kp D_law_price.b .nil pass0 (pa_cons (pv 0) pa_nil)) pa_nil))) pa_nil))))
   pss_nil)
  (pss_one (ps_set (i := 2) sc_law_tiers.nd rfl (Or.inl rfl) (pe_op op_add (pe_op op_add (pv 2) pe_int) (pe_op op_mod (pe_call G_law_pop hr (by rfl) D_law_pop.g D_law_pop.F.kp D_law_pop.b .nil pass0 (pa_cons (pv 0) pa_nil)) pe_int))))))
  (pss_one (ps_ret (pv 1)))))), ?_⟩
    refine ⟨Nat.zero_le _, fun F nF => ?_⟩
    have naF : F ≠ a := (ne_of_none ha nF).symm
    have ha0 : upd H F (.lst []) a = some (LI ns) := by rw [upd_ne naF.symm]; exact ha
    refine ⟨_, rfl, a, ns, rfl, ha0, fun H1 s1 ha1 => ?_⟩
    have s1' : SameBut a H H1 := (SameBut.of (same_upd nF)).trans s1
    have hF1 : H1 F = some (.lst []) := s1 _ _ naF upd_same
    obtain ⟨m, hm1, hm4, em⟩ := draw4 (ns.headD 0)
    refine ⟨_, _, rfl, rfl, (by show (0 : Int) < _; decide), _, _, rfl, rfl, _, rfl, by omega, by omega, for_range (n := (1 + ns.headD 0 % 4).toNat) (fun i σ H' => ∃ z y3, σ = [some (.ref a), some (.ref F), some (.int z), y3] ∧ SameBut a H H' ∧ (∃ ds, H' a = some (LI ds)) ∧ ∃ ts, TiersAt (cutH a H') F ts ∧ RiseT ts z i) ⟨1, none, rfl, s1', ⟨_, ha1⟩, [], ⟨[], cut_put naF hF1, rfl, fun i u t hu => by simp at hu⟩, ⟨Nat.le_refl _, fun _ => ⟨rfl, rfl⟩, fun t e => by simp at e, fun t ht => by simp at ht, fun i a b ha => by simp at ha, fun t ht => by simp at ht⟩⟩ (fun i σ H2 hi hp => ?_) (fun σ H2 hp => ?_)⟩
    · obtain ⟨z, y3, rfl, s2, ⟨ds, ha2⟩, ts, hts, rs⟩ := hp
      refine ⟨fun σ' H' => ∃ ts', σ' = [some (.ref a), some (.ref F), some (.int z), some (.int (0 + (i : Nat)))] ∧ SameBut a H H' ∧ (∃ ds, H' a = some (LI ds)) ∧ TiersAt (cutH a H') F ts' ∧ ∀ z', z < z' → RiseT ts' z' (i + 1), ?_, fun σ6 H6 hI => ?_⟩
      · refine ⟨_, rfl, _, _, rfl, rfl, _, rfl, ite2 (fun c => ?_) (fun c => ?_)⟩
        · have c' : z < 13 := of_decide_eq_true c
          have hF3 : ∃ xs, H2 F = some (.lst xs) := by
            obtain ⟨us, h1, _⟩ := id hts
            exact ⟨_, (cut_some h1).2⟩
          obtain ⟨xs3, hF3⟩ := hF3
          refine ⟨_, rfl, .inl ⟨rfl, _, SqL.of hF3⟩, _, rfl, _, rfl, a, _, rfl, ha2, fun H4 ns4 p s4 ha4 p0 p1 => ⟨by show 2 ≤ sizeLine; decide, fun u nu => ?_⟩⟩
          have hts4 := hts.same (cut_same s4)
          have nua : u ≠ a := (ne_of_none ha4 nu).symm
          have nuc : cutH a H4 u = none := by rw [cut_at nua]; exact nu
          obtain ⟨xs, hx, hxl, hpu⟩ := hts4.push (t := (z, p)) nuc
          have hF4 := (cut_some hx).2
          have few := rs.few
          refine ⟨F, _, _, rfl, rfl, (by rw [upd_ne (ne_of_none hF4 nu)]; exact hF4), szL' (by omega), ts ++ [(z, p)], rfl, ?_, ⟨ns4, ?_⟩, ?_, fun z' hz => rs.push c' hz p0 p1⟩
          · exact ((s2.trans s4).trans (.of (same_upd nu))).new nF
          · rw [upd_ne naF.symm, upd_ne nua.symm]
            exact ha4
          · rw [cut_upd naF, cut_upd nua]
            exact hpu
        · exact ⟨ts, rfl, s2, ⟨_, ha2⟩, hts, fun z' hz => rs.pass (fun y => c (decide_eq_true y)) hz⟩
      · obtain ⟨ts', rfl, s6, ⟨ds6, ha6⟩, hts6, hr6⟩ := hI
        refine ⟨_, rfl, _, _, rfl, rfl, _, rfl, a, _, rfl, ha6, fun H7 s7 ha7 => ⟨_, _, rfl, rfl, (by show (0 : Int) < _; decide), _, _, rfl, rfl, ?_⟩⟩
        have := Int.emod_nonneg (ds6.headD 0) (show (5 : Int) ≠ 0 by omega)
        exact ⟨_, _, rfl, s6.trans s7, ⟨_, ha7⟩, ts', hts6.same (cut_same s7), hr6 _ (by omega)⟩
    · obtain ⟨z, y3, rfl, s2, ⟨ds, ha2⟩, ts, hts, rs⟩ := hp
      exact ⟨_, rfl, q H2 F ts ds s2 nF hts (rs.good (by omega) (by omega)) rs.pr ha2⟩
end
/-! ### packs of a shop -/
def isPack (os : List Ofr) (i : Nat) : Bool := match os[i]? with
  | some (.pack _ _) => true
  | _ => false
def packsN (os : List Ofr) (n : Nat) : List Int := ((List.range n).filter (isPack os)).map fun (i : Nat) => (i : Int)
theorem packsN_len (os : List Ofr) (n : Nat) : (packsN os n).length ≤ n := by
  unfold packsN
  rw [List.length_map]
  exact Nat.le_trans (List.length_filter_le _ _) (by rw [List.length_range]; exact Nat.le_refl _)
theorem packsN_yes {os : List Ofr} {n : Nat} (h : isPack os n = true) : packsN os (n + 1) = packsN os n ++ [(n : Int)] := by
  unfold packsN
  rw [List.range_succ, List.filter_append, List.map_append]
  simp [h]
theorem packsN_no {os : List Ofr} {n : Nat} (h : isPack os n = false) : packsN os (n + 1) = packsN os n := by
  unfold packsN
  rw [List.range_succ, List.filter_append, List.map_append]
  simp [h]
theorem packsN_mem {os : List Ofr} {n : Nat} {x : Int} (h : x ∈ packsN os n) : ∃ j : Nat, x = (j : Int) ∧ j < n ∧ ∃ c p, os[j]? = some (.pack c p) := by
  obtain ⟨j, hj, rfl⟩ := List.mem_map.mp h
  obtain ⟨h1, h2⟩ := List.mem_filter.mp hj
  refine ⟨j, rfl, List.mem_range.mp h1, ?_⟩
  unfold isPack at h2
  split at h2
  · exact ⟨_, _, by assumption⟩
  · cases h2
/-! ### _law_shop -/
abbrev s_law_shop : Stmt := topS 37
abbrev N_law_shop : List Str := ["_law_draws_here", "_law_many", "_law_most", "_law_shop_here", "_law_k", "_law_number", "_law_packs", "_law_kind", "_law_content_here", "_law_place", "_law_offer"]
theorem sc_law_shop : FnScope N_law_shop ["_law_draws_here", "_law_many", "_law_most"] (defScope s_law_shop) := ⟨rfl, rfl, rfl, by decide +kernel, rfl, by decide +kernel, by decide +kernel⟩

def sp_shop : Sp := fun vs H Q _ => ∃ (a : Addr) (ns : List Int) (m most : Nat), vs = [.ref a, .int m, .int most] ∧ H a = some (LI ns) ∧ 1 ≤ m ∧ m ≤ 4 ∧ most ≤ 8 ∧
  ∀ H' p os ns', SameBut a H H' → H p = none → ShopAt (cutH a H') p os → Good os → FitS m os → os.length ≤ most → H' a = some (LI ns') → Q (.ref p) H'
section
variable {P : Program} {w : World} {K : PySem.W.Frag} {mg : Str → Option Value} {base : Heap}
theorem ok_shop {f f1 f2 f3 f4 f5 : Addr} {fd fd1 fd2 fd3 fd4 fd5 : FuncData} {k : Nat} (M : Names mg) (D : Def K mg "_law_shop" s_law_shop ["_law_draws_here", "_law_many", "_law_most"] f fd) (D_law_content : Def K mg "_law_content" s_law_content ["_law_draws_here", "_law_many", "_law_most"] f1 fd1) (D_law_price : Def K mg "_law_price" s_law_price ["_law_draws_here"] f2 fd2) (D_law_tiers : Def K mg "_law_tiers" s_law_tiers ["_law_draws_here"] f3 fd3)
    (D_law_cut : Def K mg "_law_cut" s_law_cut ["_law_row"] f4 fd4) (D_law_pop : Def K mg "_law_pop" s_law_pop ["_law_draws_here"] f5 fd5) :
    FnOk P w K mg base CX0 (k + 4) f fd ["_law_draws_here", "_law_many", "_law_most"] sp_shop := by
  have G_law_content : FnOk P w K mg base CX0 (k + 3) f1 fd1 ["_law_draws_here", "_law_many", "_law_most"] sp_content := ok_content M D_law_content D_law_pop D_law_cut
  have G_law_price : FnOk P w K mg base CX0 (k + 3) f2 fd2 ["_law_draws_here"] sp_price := ok_price D_law_price D_law_pop
  have G_law_tiers : FnOk P w K mg base CX0 (k + 3) f3 fd3 ["_law_draws_here"] sp_tiers := ok_tiers M D_law_tiers D_law_price D_law_pop
  have G_law_pop : FnOk P w K mg base CX0 (k + 3) f5 fd5 ["_law_draws_here"] sp_pop := ok_pop D_law_pop
  refine D.F.ok sc_law_shop (fun vs H Q E h => ?_) (fun cdv A outer s H vs Q E hr h => ?_)
  · obtain ⟨a, ns, m, most, rfl, _⟩ := h
    rfl
  · obtain ⟨a, ns, m, most, rfl, ha, hm1, hm4, hmost, q⟩ := h
    refine ⟨_, (pss_cons (ps_set (i := 3) sc_law_shop.nd rfl (Or.inl rfl) (pe_lst pa_nil))
  (pss_cons (ps_for PassesOwn.never rfl (pi_range1 (by rfl) M.range (pa_cons (pe_op op_mod (pe_call G_law_pop hr (by rfl) D_law_pop.g D_law_pop.F.kp D_law_pop.b .nil pass0 (pa_cons (pv 0) pa_nil)) (pe_op op_add (pv 2) pe_int)) pa_nil)) (pg_name (i := 4) sc_law_shop.nd rfl (Or.inl rfl))
   (pss_cons (ps_set (i := 5) sc_law_shop.nd rfl (Or.inl rfl) (pe_call G_law_pop hr (by rfl) D_law_pop.g D_law_pop.F.kp D_law_pop.b .nil pass0 (pa_cons (pv 0) pa_nil)))
  (pss_cons (ps_setLc (i := 6) (own := [("_law_place", 9), ("_law_offer", 10)]) (by rfl) sc_law_shop.nd rfl rfl (sw_true rfl rfl rfl (by decide +kernel)) (pi_enum (by rfl) M.enumerate (pa_cons (pv 3) pa_nil)) (blkOk_by (own := [("_law_place", 9), ("_law_offer", 10)]) (N := N_law_shop) (sc := defScope s_law_shop) (by decide +kernel)) (fun _ _ _ _ _ => (pg_tupK (K := K) (n := 2) rfl rfl (pgs_cons (pg_name (i := 9) sc_law_shop.nd rfl (Or.inl rfl)) (pgs_cons (pg_name (i := 10) sc_law_shop.nd rfl (Or.inl rfl)) pgs_nil)))) (fun _ _ _ _ _ => (pts_one (pt_cmpR op_eq (pe_ix (ix_tupK (K := K) rfl) (pv 10) pe_int (fun _ _ => rfl)) pe_str (nomark _)))) (fun _ _ _ _ _ => (pv 9)))
  (pss_cons (ps_set (i := 7) sc_law_shop.nd rfl (Or.inl rfl) (pe_op op_mod (pv 5) pe_int))
  (pss_cons (ps_set (i := 8) sc_law_shop.nd rfl (Or.inl rfl) (pe_call G_law_content hr (by rfl) D_law_content.g D_law_content.F.kp D_law_content.b .nil pass0 (pa_cons (pv 0) (pa_cons (pv 1) (pa_cons pe_int pa_nil)))))
  (pss_one (ps_if (pt_cmpR op_lt (pv 7) pe_int (nomark _))
   (pss_one (ps_expr (pe_bm PySem.F.plainAttrs_list PySem.F.slot_list_append PySem.F.type_list_append mt_append (pv 3) (pa_cons (pe_tup (pa_cons pe_str (pa_cons (pv 8) (pa_cons (pe_call G_law_tiers hr (by rfl) D_law_tiers.g D_law_tiers.F.kp D_law_tiers.b .nil pass0 (pa_cons (pv 0) pa_nil)) pa_nil)))) pa_nil))))
   (pss_one (ps_if (PW.pt (pw_and (pt_cmpR op_lt (pv 7) pe_int (nomark _)) (pw_and1 (pt_cmpR (op_neD hr.units) (pv 6) (pe_lst pa_nil) (nomark _)))))
   (pss_one (ps_expr (pe_bm PySem.F.plainAttrs_list PySem.F.slot_list_append PySem.F.type_list_append mt_append (pv 3) (pa_cons (pe_tup (pa_cons pe_str (pa_cons (pv 8) (pa_cons (pe_call G_law_price hr (by rfl) D_law_price.g D_law_price.F.kp D_law_price.b .nil pass0 (pa_cons (pv 0) pa_nil)) (pa_cons (pe_ix ix_list (pv 6) (pe_op op_mod (pe_op op_fdiv (pv 5) pe_int) (pe_callB call_len_seq (by rfl) M.len (by decide +kernel) (pa_cons (pv 6) pa_nil))) (fun _ _ => rfl)) pa_nil))))) pa_nil))))
   (pss_one (ps_expr (pe_bm PySem.F.plainAttrs_list PySem.F.slot_list_append PySem.F.type_list_append mt_append (pv 3) (pa_cons (pe_tup (pa_cons pe_str (pa_cons (pv 8) (pa_cons (pe_call G_law_price hr (by rfl) D_law_price.g D_law_price.F.kp D_law_price.b .nil pass0 (pa_cons (pv 0) pa_nil)) pa_nil)))) pa_nil)))))))))))))
  (pss_one (ps_ret (pv 3))))), ?_⟩
    refine ⟨Nat.zero_le _, fun S nS => ?_⟩
    have nSa : S ≠ a := (ne_of_none ha nS).symm
    have ha0 : upd H S (.lst []) a = some (LI ns) := by rw [upd_ne nSa.symm]; exact ha
    refine ⟨_, rfl, a, ns, rfl, ha0, fun H1 s1 ha1 => ?_⟩
    have s1' : SameBut a H H1 := (SameBut.of (same_upd nS)).trans s1
    have hS1 : H1 S = some (.lst []) := s1 _ _ nSa upd_same
    obtain ⟨cnt, hcnt, ecnt⟩ := mod_at (i := ns.headD 0) (n := most + 1) (by omega)
    refine ⟨_, rfl, _, _, rfl, rfl, _, _, rfl, rfl, (by show (0 : Int) < (most : Int) + 1; omega), ?_⟩
    refine ⟨(cnt : Int), (by show [V.int (ns.headD 0 % ((most : Int) + 1))] = [V.int (cnt : Int)]; rw [show ns.headD 0 % ((most : Int) + 1) = (cnt : Int) from ecnt]), by omega, by omega, for_range (n := (cnt : Int).toNat) (fun i σ H' => ∃ y4 y5 y6 y7 y8, σ = [some (.ref a), some (.int m), some (.int most), some (.ref S), y4, y5, y6, y7, y8, none, none] ∧ SameBut a H H' ∧ (∃ ds, H' a = some (LI ds)) ∧ ∃ (vs : List Addr) (os : List Ofr), H' S = some (.lst (vs.map V.ref)) ∧ Al (OfrAt (cutH S (cutH a H'))) vs os ∧ Good os ∧ FitS m os ∧ os.length ≤ i) ⟨none, none, none, none, none, rfl, s1', ⟨_, ha1⟩, [], [], hS1, True.intro, ⟨by decide, fun i o ho => by simp at ho⟩, fun o ho => by simp at ho, Nat.le_refl _⟩ (fun i σ H2 hi hp => ?_) (fun σ H2 hp => ?_)⟩
    · obtain ⟨y4, y5, y6, y7, y8, rfl, s2, ⟨ds, ha2⟩, vs, os, hS2, al, gd, ft, hlen⟩ := hp
      have hi2 : i < cnt := by omega
      have lal := al.len
      refine ⟨_, rfl, a, ds, rfl, ha2, fun H3 s3 ha3 => ?_⟩
      generalize ds.headD 0 = n
      have s23 := s2.trans s3
      have hS3 := s3 _ _ nSa hS2
      have al3 : Al (OfrAt (cutH S (cutH a H3))) vs os := al.imp fun v o h => h.same (cut_mono (cut_same s3))
      have sh3 : ShopAt H3 S os := ShopAt.of_al hS3 (al3.imp fun v o h => (h.same cut_le).same cut_le)
      obtain ⟨vs3, k1, k2, k3⟩ := id sh3
      -- packs
      refine ⟨_, rfl, S, _, rfl, SqL.of k1, fun B nB => lc_it (walk_enum (xs := vs3.map V.ref)) (fun j H' => Same H3 H' ∧ H' B = some (LI (packsN os j))) ⟨same_upd nB, upd_same⟩ (fun j H' _ hp => SqL.of (hp.1 _ _ k1)) (fun j x H3' H4 hj hI hy => ?_) (fun H4 hI => ?_)⟩
      · obtain ⟨s4, hB⟩ := hI
        obtain ⟨Tt, x1, x2, rfl, nT, rfl, e1, e2⟩ := hy
        cases Option.some.inj e1
        rw [List.length_map] at hj
        have hj2 : j < os.length := by omega
        obtain ⟨v, o, g1, g2, g3⟩ := ShopAt.get (H := H3) (a := S) k2 hj2
        have e2' : (vs3.map V.ref)[j]? = some x2 := e2
        rw [g3] at e2'
        cases Option.some.inj e2'
        have st := same_upd (o := .tup [.int (j : Nat), .ref v]) nT
        obtain ⟨b, r, hv, _⟩ := ((k3 j v o g1 g2).same (s4.trans st)).head
        have nlen := packsN_len os j
        have hB2 := st _ _ hB
        refine ⟨Tt, _, rfl, SqT.of upd_same, rfl, _, _, rfl, _, _, rfl, rfl, rfl, _, rfl, v, _, _, _, rfl, rfl, SqT.of hv, atI_nat (j := 0) rfl, rfl, ?_⟩
        cases o with
        | pack c pr =>
          have hn : isPack os j = true := by unfold isPack; rw [g2]
          refine ⟨true, rfl, _, rfl, _, hB2, szL' (by rw [List.length_map]; omega), sm_new (s4.trans st) nB, ?_⟩
          rw [packsN_yes hn]
          exact at_app
        | many c ts =>
          have hn : isPack os j = false := by unfold isPack; rw [g2]
          exact ⟨false, rfl, s4.trans st, by rw [packsN_no hn]; exact hB2⟩
        | add c pr kk =>
          have hn : isPack os j = false := by unfold isPack; rw [g2]
          exact ⟨false, rfl, s4.trans st, by rw [packsN_no hn]; exact hB2⟩
      · obtain ⟨s4, hB⟩ := hI
        rw [List.length_map, k2] at hB
        have ha4 := s4 _ _ ha3
        have hS4 := s4 _ _ hS3
        have nBa : B ≠ a := (ne_of_none ha3 nB).symm
        have s24 : SameBut a H H4 := s23.trans (.of s4)
        have al4 : Al (OfrAt (cutH S (cutH a H4))) vs os := al3.imp fun v o h => h.same (cut_mono (cut_mono s4))
        -- kind
        refine ⟨_, rfl, _, _, rfl, rfl, (by show (0 : Int) < _; decide), ?_⟩
        -- content
        refine ⟨_, rfl, _, rfl, a, _, m, 9, rfl, ha4, hm1, hm4, by decide, by decide, fun H5 c ws ns5 s5 nc nca hc ha5 hl sm => ?_⟩
        have s25 := s24.trans s5
        have hS5 := s5 _ _ nSa hS4
        have hB5 := s5 _ _ nBa hB
        have ncS : c ≠ S := fun z => by rw [z, hS4] at nc; cases nc
        have al5 : Al (OfrAt (cutH S (cutH a H5))) vs os := al4.imp fun v o h => h.same (cut_mono (cut_same s5))
        have fin : ∀ (H6 : Hp) (v : Addr) (o : Ofr) (tup : List V) (ns6 : List Int), SameBut a H5 H6 → H6 v = none → H6 a = some (LI ns6) → (OfrAt (cutH S (cutH a (upd H6 v (.tup tup)))) v o) → GoodO os os.length o → FitO m o → upd H6 v (.tup tup) S = some (.lst (vs.map V.ref)) ∧ (vs.map V.ref).length < sizeLine ∧ (∃ y4 y5 y6 y7 y8, [some (V.ref a), some (.int m), some (.int most), some (.ref S), some (.int (0 + (i : Nat))), some (.int n), some (.ref B), some (.int (n % 8)), some (.ref c), none, none] = [some (.ref a), some (.int m), some (.int most), some (.ref S), y4, y5, y6, y7, y8, none, none] ∧ SameBut a H (upd (upd H6 v (.tup tup)) S (.lst (vs.map V.ref ++ [.ref v]))) ∧ (∃ ds, upd (upd H6 v (.tup tup)) S (.lst (vs.map V.ref ++ [.ref v])) a = some (LI ds)) ∧ ∃ (vs' : List Addr) (os' : List Ofr), upd (upd H6 v (.tup tup)) S (.lst (vs.map V.ref ++ [.ref v])) S = some (.lst (vs'.map V.ref)) ∧ Al (OfrAt (cutH S (cutH a (upd (upd H6 v (.tup tup)) S (.lst (vs.map V.ref ++ [.ref v])))))) vs' os' ∧ Good os' ∧ FitS m os' ∧ os'.length ≤ i + 1) := by
          intro H6 v o tup ns6 s6 nv ha6 ho go fo
          have nva : v ≠ a := (ne_of_none ha6 nv).symm
          have hS6 := s6 _ _ nSa hS5
          have hS7 := (same_upd (o := .tup tup) nv) _ _ hS6
          refine ⟨hS7, szL' (by rw [List.length_map]; omega), _, _, _, _, _, rfl, ?_, ⟨ns6, ?_⟩, vs ++ [v], os ++ [o], ?_, ?_, gd.push (by omega) go, ft.push fo, by rw [List.length_append, List.length_singleton]; omega⟩
          · exact ((s25.trans s6).trans (.of (same_upd nv))).new nS
          · rw [upd_ne nSa.symm, upd_ne nva.symm]
            exact ha6
          · rw [upd_same, List.map_append]
            rfl
          · rw [cut_upd nSa, cut_off]
            refine Al.app (al5.imp fun x y h => h.same (cut_mono (cut_same (s6.trans (.of (same_upd nv)))))) (.one ho)
        have finM := fun (H6 H7 : Hp) (v tt : Addr) (ts : List (Int × Int)) (ns7 : List Int) (s6 : SameBut a H5 H6) (s7 : SameBut a H6 H7) (nt : H6 tt = none) (hts : TiersAt (cutH a H7) tt ts) (gts : GoodT ts) (prt : PriceT ts) (ha7 : H7 a = some (LI ns7)) (nv : H7 v = none) => by
          have hS6 := s6 _ _ nSa hS5
          have hS7 := s7 _ _ nSa hS6
          have nva : v ≠ a := (ne_of_none ha7 nv).symm
          have nvS : v ≠ S := (ne_of_none hS7 nv).symm
          have ntS : tt ≠ S := fun z => by rw [z, hS6] at nt; cases nt
          have hc7 := s7 _ _ nca (s6 _ _ nca hc)
          have hts' : TiersAt (cutH S (cutH a (upd H7 v (.tup [.str "many", .ref c, .ref tt])))) tt ts := (hts.cut ntS (cut_put nSa hS7)).same (cut_mono (cut_mono (same_upd nv)))
          exact fin H7 v (.many ws ts) [.str "many", .ref c, .ref tt] ns7 (s6.trans s7) nv ha7 ⟨c, tt, cut_put nvS (cut_put nva upd_same), cut_put ncS (cut_put nca ((same_upd nv) _ _ hc7)), hts'⟩ gts ⟨hl, sm, prt⟩
        have finP := fun (H6 H7 : Hp) (v : Addr) (ns7 : List Int) (p : Int) (s6 : SameBut a H5 H6) (s7 : SameBut a H6 H7) (ha7 : H7 a = some (LI ns7)) (p0 : 0 ≤ p) (p1 : p < 1000000000000) (nv : H7 v = none) => by
          have hS7 := s7 _ _ nSa (s6 _ _ nSa hS5)
          have nva : v ≠ a := (ne_of_none ha7 nv).symm
          have nvS : v ≠ S := (ne_of_none hS7 nv).symm
          have hc7 := s7 _ _ nca (s6 _ _ nca hc)
          exact fin H7 v (.pack ws p) [.str "pack", .ref c, .int p] ns7 (s6.trans s7) nv ha7 ⟨c, cut_put nvS (cut_put nva upd_same), cut_put ncS (cut_put nca ((same_upd nv) _ _ hc7))⟩ True.intro ⟨hl, sm, p0, p1⟩
        refine ⟨_, rfl, _, _, rfl, rfl, _, rfl, ite2 (fun _ => ?_) (fun _ => ?_)⟩
        · refine ⟨_, rfl, .inl ⟨rfl, _, SqL.of hS5⟩, _, rfl, _, rfl, a, _, rfl, ha5, fun H7 tt ts ns7 s7 nt hts gts prt ha7 => ⟨by show 3 ≤ sizeLine; decide, fun v nv => ?_⟩⟩
          exact ⟨S, _, _, rfl, rfl, finM H5 H7 v tt ts ns7 (.refl _ _) s7 nt hts gts prt ha7 nv⟩
        · refine ⟨_, rfl, _, _, rfl, rfl, _, rfl, ite2 (fun _ => ?_) (fun _ => ?_)⟩
          · refine ⟨_, rfl, Nat.zero_le _, fun e ne => ?_⟩
            have se := same_upd (o := .lst []) ne
            have hB6 := se _ _ hB5
            have ha6 := se _ _ ha5
            have hS6 := se _ _ hS5
            have he : upd H5 e (.lst []) e = some (.lst []) := upd_same
            generalize upd H5 e (.lst []) = H6 at se hB6 ha6 hS6 he ⊢
            refine ⟨_, _, dp_ints (SqL.of hB6), dp_ints (ns := []) (SqL.of he), shaped_ints _, shaped_ints _, _, rfl, ite2 (fun z => ?_) (fun z => ?_)⟩
            · have pne : 0 < (packsN os os.length).length := by
                rcases Nat.eq_zero_or_pos (packsN os os.length).length with y | y
                · rw [eqv_ints, List.eq_nil_of_length_eq_zero y, decide_eq_true rfl] at z
                  cases z
                · exact y
              obtain ⟨j, hj, ej⟩ := mod_at (i := n / 8) (n := ((packsN os os.length).map V.int).length) (by rw [List.length_map]; exact pne)
              rw [List.length_map] at hj
              refine ⟨_, rfl, .inl ⟨rfl, _, SqL.of hS6⟩, _, rfl, _, rfl, a, _, rfl, ha6, fun H7 ns7 p s7 ha7 p0 p1 => ?_⟩
              have hB7 := s7 _ _ nBa hB6
              refine ⟨_, rfl, _, rfl, _, _, rfl, rfl, ⟨by decide, by decide⟩, _, rfl, B, _, rfl, .inl (SqL.of hB7), _, _, rfl, rfl, (by rw [List.length_map]; omega), B, _, _, _, rfl, rfl, SqL.of hB7, at_of ej (getD_ints hj), by show 4 ≤ sizeLine; decide, fun v nv => ?_⟩
              obtain ⟨jj, ejj, hjj, cc, pp, hpk⟩ := packsN_mem (List.getElem_mem hj)
              have nva : v ≠ a := (ne_of_none ha7 nv).symm
              have hS7 := s7 _ _ nSa hS6
              have nvS : v ≠ S := (ne_of_none hS7 nv).symm
              have hc7 := s7 _ _ nca (se _ _ hc)
              exact ⟨S, _, _, rfl, rfl, fin H7 v (.add ws p ((packsN os os.length)[j])) _ ns7 ((SameBut.of se).trans s7) nv ha7 ⟨c, cut_put nvS (cut_put nva upd_same), cut_put ncS (cut_put nca ((same_upd nv) _ _ hc7))⟩ ⟨jj, ejj, hjj, cc, pp, hpk⟩ ⟨hl, sm, p0, p1⟩⟩
            · refine ⟨_, rfl, .inl ⟨rfl, _, SqL.of hS6⟩, _, rfl, _, rfl, a, _, rfl, ha6, fun H7 ns7 p s7 ha7 p0 p1 => ⟨by show 3 ≤ sizeLine; decide, fun v nv => ?_⟩⟩
              exact ⟨S, _, _, rfl, rfl, finP H6 H7 v ns7 p (.of se) s7 ha7 p0 p1 nv⟩
          · refine ⟨_, rfl, .inl ⟨rfl, _, SqL.of hS5⟩, _, rfl, _, rfl, a, _, rfl, ha5, fun H7 ns7 p s7 ha7 p0 p1 => ⟨by show 3 ≤ sizeLine; decide, fun v nv => ?_⟩⟩
            exact ⟨S, _, _, rfl, rfl, finP H5 H7 v ns7 p (.refl _ _) s7 ha7 p0 p1 nv⟩
    · obtain ⟨y4, y5, y6, y7, y8, rfl, s2, ⟨ds, ha2⟩, vs, os, hS2, al, gd, ft, hlen⟩ := hp
      refine ⟨_, rfl, q H2 S os ds s2 nS (ShopAt.of_al (cut_put nSa hS2) (al.imp fun v o h => h.same cut_le)) gd ft (by omega) ha2⟩
end
/-! ### walks over d.items(), d with tuple keys -/
/-- the heap's own view of such a dict: o itself, its entries in order, each key a tuple that is held, each value alike -/
theorem seen_dT {X : Cx} {pins : List (Addr × Obj)} {σ : L2.St} {H : Hp} {s : Shared} {d : Addr} {o : Obj} {kvs : List (List Key × V)} (I : Inv X pins σ H s) (h : H d = some (.frz o (.dT kvs))) :
    (d == sysModules) = false ∧ s.heap.get? d = some o ∧ o.ExactDict ∧ ∃ (es : Array DictEntry) (ep : Nat), o.data = .dict es ep ∧ es.size = kvs.length ∧
      ∀ (i : Nat) (k : List Key) (v : V), kvs[i]? = some (k, v) → ∃ (en : DictEntry) (q : Addr), es[i]? = some en ∧ en.key = .ref q ∧ H q = some (.tup (k.map kV)) ∧ RelV v en.val := by
  obtain ⟨itself, _, noModules, xs, alike, u, es, ep, there, exact_, isDict, entries, _⟩ := I.hok d _ h
  cases itself.symm.trans there
  have many : es.size = kvs.length := (size_of_entries entries).trans (Paired.length alike).symm
  refine ⟨noModules, there, exact_, es, ep, isDict, many, ?_⟩
  intro i k v at_
  obtain ⟨b, inB, _, key, val⟩ := paired_get alike at_
  have inEs := entry_at entries i
  rw [inB] at inEs
  exact ⟨_, b.2.1, inEs, rfl, key, val⟩
/-- what a walk hands out at its i-th turn: a new tuple of the key's own tuple and the value -/
def ItemT (d : Addr) (o : Obj) (kvs : List (List Key × V)) (i : Nat) (H : Hp) (x : V) (H' : Hp) : Prop := ∃ T k v q, kvs[i]? = some (k, v) ∧ x = .ref T ∧ H T = none ∧ H q = some (.tup (k.map kV)) ∧ H' = upd H T (.tup [.ref q, v])
def ItiT (d : Addr) (o : Obj) (kvs : List (List Key × V)) : It where
  go := fun i H => H d = some (.frz o (.dT kvs)) ∧ i < kvs.length
  yld := ItemT d o kvs
  stop := fun i H => H d = some (.frz o (.dT kvs)) ∧ kvs.length ≤ i
theorem turn_itemsT {P : Program} {w : World} {K : PySem.W.Frag} {d : Addr} {o : Obj} {es : Array DictEntry} {ep : Nat} {kvs : List (List Key × V)} {elts : List Expr} {kk : Nat} {tpos : Pos} (it : Addr) (hod : o.data = .dict es ep) :
    Turn P w K (.Tuple elts kk tpos) (ItiT d o kvs) [it] it (fun i h => ∃ ok ov, IsItemIter h it d i es.size ep ok ov) where
  mem := List.mem_singleton.mpr rfl
  obj := fun i h st b hb => by
    cases List.mem_singleton.mp hb
    exact st.elim fun ok st => st.elim fun ov at_ => ⟨_, at_, nofun⟩
  keep := fun i h h' st more => st.elim fun ok st => st.elim fun ov at_ => ⟨ok, ov, more it (List.mem_singleton.mpr rfl) _ at_⟩
  self := fun A i s Q E st q => st.elim fun _ st => st.elim fun _ at_ => PySem.W.kcp_self at_ q
  item := by
    rintro X rfl rfl rfl hc i pins s σ H E I foot ⟨ok, ov, at_⟩ ⟨held, li⟩
    obtain ⟨_, there, exact_, es1, ep1, isDict, many, entry⟩ := seen_dT I held
    cases hod.symm.trans isDict
    obtain ⟨en, q, inEs, key, tup, val⟩ := entry i _ _ (List.getElem?_eq_getElem li)
    have lj : i < es.size := many ▸ li
    cases (Array.getElem?_eq_getElem lj).symm.trans inEs
    have low : it < s.heap.objs.size := Heap.lt_size at_
    refine DT.nextI at_ ⟨o, there, exact_, hod⟩ lj fun h1 isIter isTup _ more => ⟨_, rfl, wpAny_letOwnedTupleGo_items (s := { s with heap := h1 }) isIter fun h2 isIter2 but => ?_⟩
    have made : ObjOk X.prog X.w (upd H s.heap.objs.size (.tup [.ref q, kvs[i].2])) h2 s.heap.objs.size (.tup [.ref q, kvs[i].2]) :=
      ⟨(by decide : 2 ≤ sizeLine), [es[i].key, es[i].val], .cons key (.cons val .nil), ⟨_, (but.2 _ (Nat.ne_of_gt low)).trans isTup, rfl, _, rfl⟩⟩
    have J := I.turnedNew (t' := s.toks) (ch := [it]) (fun b u far e => (but.2 b (fun z => far (List.mem_singleton.mpr z))).trans (more b u (fun z => far (List.mem_singleton.mpr z)) e)) foot (Nat.le_refl _) made
    refine ⟨.ref s.heap.objs.size, _, J, rfl, ⟨_, _, _, q, List.getElem?_eq_getElem li, rfl, I.hok.fresh (Nat.le_refl _), tup, rfl⟩, ⟨_, _, isIter2⟩, fun b hb => ?_⟩
    cases List.mem_singleton.mp hb
    exact (upd_ne (Nat.ne_of_lt low)).trans (foot it hb).1
  done := by
    rintro X rfl rfl rfl hc i pins s σ H E I foot ⟨ok, ov, at_⟩ ⟨held, le⟩
    obtain ⟨_, there, exact_, es1, ep1, isDict, many, _⟩ := seen_dT I held
    cases hod.symm.trans isDict
    have F := foot it (List.mem_singleton.mpr rfl)
    exact DT.endI (I.ok.hd hc) at_ ⟨o, there, exact_, hod⟩ (many ▸ le) fun h1 more => ⟨rfl, I.turned (t' := s.toks) more F.1 F.2.1 F.2.2.2.1 F.2.2.2.2.1 F.2.2.2.2.2⟩
def iItemsT (td : TE) : TI := fun σ H R => td σ H fun x H1 => ∃ d o kvs, x = .ref d ∧ H1 d = some (.frz o (.dT kvs)) ∧ R (ItiT d o kvs) H1
theorem pi_itemsT {X : Cx} {e : Expr} {td : TE} {apos cpos : Pos} {elts : List Expr} {kk : Nat} {tpos : Pos} (he : PE X e td) (hbase : attributeBase e "items" X.env (eval e X.env) = eval e X.env := by rfl) (hline : (apos.endLine == cpos.line) = true := by rfl) :
    PI X (.Tuple elts kk tpos) (.Call (.Attribute e "items" apos) [] [] cpos) (iItemsT td) := by
  constructor
  intro pins s σ H R I h
  refine wpAny_Call_method (T := "dict") (id := "dict.items") hbase rfl hline F.plainAttrs_dict F.slot_dict_items F.type_dict_items (thn (he.run pins s σ H _ I h) ?_)
  rintro u s1 ⟨_, H1, J, isRef, d, o, kvs, rfl, held, q⟩
  cases (show u = Value.ref d from isRef)
  obtain ⟨noModules, there, exact_, es, ep, isDict, _⟩ := seen_dT J held
  have raw : DT.Raw s1.heap d es ep := ⟨o, there, exact_, isDict⟩
  have D := isD_at J (.inr ⟨kvs, .inr ⟨o, held⟩⟩)
  have view : (s1.heap.push { cls := .type "dict_items", data := .fields #[.ref d] }).get? s1.heap.objs.size = some { cls := .type "dict_items", data := .fields #[.ref d] } := Heap.get?_push_size _ rfl
  have walk : wpAny (model X.prog X.w) X.A (pyIter (.ref s1.heap.objs.size)) (PIE X pins σ (.Tuple elts kk tpos) R) X.xe { s1 with heap := s1.heap.push { cls := .type "dict_items", data := .fields #[.ref d] } } :=
    DT.iterI (d := d) ⟨_, view, rfl, rfl⟩ (raw.push _) (pi_one (tk := s1.toks) (J.kept (t' := s1.toks) fun _ _ e => Heap.get?_push_of_some _ e) _ (turn_itemsT _ isDict) ⟨.none, .none, Heap.get?_push_size _ rfl⟩ q)
  exact ⟨D.1, D.2.1, method_meetsIn F.slot_dict_items F.entry_dict_items rfl (PySem.evalArgs_none ⟨rfl, raw.typeIs, F.args_dict_items_1 _, _, DT.meetsItems noModules, raw, walk⟩)⟩
theorem walk_itemsT {d : Addr} {o : Obj} {kvs : List (List Key × V)} : Walk (ItiT d o kvs) kvs.length (fun H => H d = some (.frz o (.dT kvs))) (ItemT d o kvs) where
  goes := fun _ _ li held => ⟨held, li⟩
  stops := fun _ held => ⟨held, Nat.le_refl _⟩
  yields := fun _ _ _ _ _ _ y => y
/-! ### cases -/
abbrev s_cases : Stmt := topS 28
abbrev N_cases : List Str := ["shop", "want", "steps", "less", "step"]
theorem sc_cases : FnScope N_cases ["shop", "want"] (defScope s_cases) := ⟨rfl, rfl, rfl, by decide +kernel, rfl, by decide +kernel, by decide +kernel⟩

/-- a row of a table: where its list stands, the wants, the number -/
abbrev TR := Addr × List Int × Option Int
def TRowF (H0 H : Hp) (a : Addr) (x : TR) : Prop := H a = some (.tup [.ref x.1, optV x.2.2]) ∧ H x.1 = some (LI x.2.1) ∧ H0 a = none ∧ H0 x.1 = none
theorem TRowF.ke {H0 H H' : Hp} (e : Ke H H') {a : Addr} {x : TR} (h : TRowF H0 H a x) : TRowF H0 H' a x := ⟨e.tup h.1, e.lst h.2.1, h.2.2⟩
def TableF (H0 H : Hp) (q : Addr) (xs : List TR) : Prop := ∃ as : List Addr, H q = some (.lst (as.map V.ref)) ∧ Al (TRowF H0 H) as xs ∧ (xs.map (·.1)).Nodup ∧ q ∉ xs.map (·.1) ∧ H0 q = none
def sp_cases (T : List Addr) : Sp := fun vs H Q _ => ∃ (a wa : Addr) (os : List Ofr) (ws : List Int), vs = [.ref a, .ref wa] ∧ ShopAt H a os ∧ Good os ∧ Fit os ∧ NN (shopRws os) ∧ Tb T H ∧ H wa = some (LI ws) ∧ ws.length ≤ 4 ∧ Small ws ∧
  ∀ H' (q : Addr) (xs : List TR), Ext T H H' → H q = none → TableF H H' q xs → xs.map (·.2.1) = lesserF ws → (∀ x ∈ xs, LeastIs (shopRws os) x.2.1 x.2.2) → Q (.ref q) H'
section
variable {P : Program} {w : World} {K : PySem.W.Frag} {mg : Str → Option Value} {base : Heap} {T : List Addr}
theorem ok_cases {f f1 f2 : Addr} {fd fd1 fd2 : FuncData} {k : Nat} (M : Names mg) (D : Def K mg "cases" s_cases ["shop", "want"] f fd) (D_priced_lines : Def K mg "priced_lines" s_priced_lines ["shop"] f1 fd1) (D_all_steps : Def K mg "all_steps" s_all_steps ["priced", "want"] f2 fd2) (G_priced_lines : FnOk P w K mg base CX0 (k + 1) f1 fd1 ["shop"] (sp_priced_lines T)) (G_all_steps : FnOk P w K mg base CX0 (k + 1) f2 fd2 ["priced", "want"] sp_all_steps) : FnOk P w K mg base CX0 (k + 2) f fd ["shop", "want"] (sp_cases T) := by
  refine D.F.ok sc_cases (fun vs H Q E h => ?_) (fun cdv A outer s H vs Q E hr h => ?_)
  · obtain ⟨a, wa, os, ws, rfl, _⟩ := h
    rfl
  · obtain ⟨a, wa, os, ws, rfl, hS, gd, fit, nn, hT, hwa, h4, sm, q⟩ := h
    refine ⟨_, (pss_cons (ps_set (i := 2) sc_cases.nd rfl (Or.inl rfl) (pe_call G_all_steps hr (by rfl) D_all_steps.g D_all_steps.F.kp D_all_steps.b .nil pass0 (pa_cons (pe_call G_priced_lines hr (by rfl) D_priced_lines.g D_priced_lines.F.kp D_priced_lines.b .nil pass0 (pa_cons (pv 0) pa_nil)) (pa_cons (pv 1) pa_nil))))
  (pss_one (ps_ret (pe_lock (pe_lc (own := [("less", 3), ("step", 4)]) (by rfl) sc_cases.nd (pi_itemsT (pv 2)) (blkOk_by (own := [("less", 3), ("step", 4)]) (N := N_cases) (sc := defScope s_cases) (by decide +kernel)) (fun _ _ _ _ _ => (pg_tupK (K := K) (n := 2) rfl rfl (pgs_cons (pg_name (i := 3) sc_cases.nd rfl (Or.inl rfl)) (pgs_cons (pg_name (i := 4) sc_cases.nd rfl (Or.inl rfl)) pgs_nil)))) (fun _ _ _ _ _ => pts_nil) (fun _ _ _ _ _ => (pe_tup (pa_cons (pe_callTy (call_list_ofK (K := K) rfl) (by rfl) M.list (by decide +kernel) (pa_cons (pv 3) pa_nil)) (pa_cons (pe_ifExp (pt_cmpR op_isN (pv 4) pe_non (nomark _)) pe_non (pe_ix (ix_tupK (K := K) rfl) (pv 4) pe_int (fun _ _ => rfl))) pa_nil))))))))), ?_⟩
    refine ⟨_, rfl, a, os, rfl, hS, gd, fit, hT, fun H1 pa e1 npa hpr => ?_⟩
    obtain ⟨as, hpa, al⟩ := hpr
    refine ⟨_, rfl, pa, wa, ws, as, prowsM os, rfl, hpa, al.imp fun r x h => h.at, e1.lst hwa, h4, sm, nn, fun H2 d s2 nd st => ?_⟩
    obtain ⟨vs, hd2, hvl, hvs⟩ := st
    have big := lesserF_le4 sm h4
    refine ⟨d, _, hd2, True.intro, fun od => ?_⟩
    have sd : SameBut d H2 (upd H2 d (.frz od (.dT (((lesserF ws).map keyW).zip vs)))) := .upd
    have s12 : Same H1 (upd H2 d (.frz od (.dT (((lesserF ws).map keyW).zip vs)))) := sm_new s2 nd
    have hd3 : upd H2 d (.frz od (.dT (((lesserF ws).map keyW).zip vs))) d = some (.frz od (.dT (((lesserF ws).map keyW).zip vs))) := upd_same
    generalize upd H2 d (.frz od (.dT (((lesserF ws).map keyW).zip vs))) = H3 at sd s12 hd3 ⊢
    have lzip : (((lesserF ws).map keyW).zip vs).length = (lesserF ws).length := by rw [List.length_zip, List.length_map, hvl, Nat.min_self]
    refine ⟨_, rfl, d, od, _, rfl, hd3, fun B nB => ?_⟩
    have nBd : B ≠ d := (ne_of_none hd3 nB).symm
    have nB1 : H1 B = none := s12.free nB
    refine lc_it walk_itemsT (fun j H' => Same H1 H' ∧ SameBut d H2 H' ∧ H' d = some (.frz od (.dT (((lesserF ws).map keyW).zip vs))) ∧ ∃ (rs : List Addr) (xs : List TR), H' B = some (.lst (rs.map V.ref)) ∧ Al (TRowF H (cutH B H')) rs xs ∧ (xs.map (·.1)).Nodup ∧ xs.map (·.2.1) = (lesserF ws).take j ∧ ∀ x ∈ xs, LeastIs (shopRws os) x.2.1 x.2.2) ⟨s12.trans (same_upd nB), sd.trans (.of (same_upd nB)), (same_upd nB) _ _ hd3, [], [], upd_same, True.intro, List.nodup_nil, rfl, fun x hx => nomatch hx⟩ (fun j H' _ hp => hp.2.2.1) (fun j x H4 H5 hj hp hy => ?_) (fun H4 hp => ?_)
    · obtain ⟨s14, sd4, hd4, rs, xs, hB4, all, ndp, exs, hli⟩ := hp
      obtain ⟨t, ky, v, kq, hkv, rfl, nt, hkq, rfl⟩ := hy
      rw [lzip] at hj
      obtain ⟨w, hw⟩ : ∃ w, (lesserF ws)[j]? = some w := ⟨_, List.getElem?_eq_getElem hj⟩
      obtain ⟨v', hv'⟩ : ∃ v', vs[j]? = some v' := ⟨_, List.getElem?_eq_getElem (by omega)⟩
      have hkv' : (((lesserF ws).map keyW).zip vs)[j]? = some (keyW w, v') := by
        rw [List.getElem?_zip_eq_some]
        exact ⟨by rw [List.getElem?_map, hw]; rfl, hv'⟩
      rw [hkv'] at hkv
      cases Option.some.inj hkv
      have sv := hvs j w v hw hv'
      rw [keyW_kV] at hkq
      have s5 := same_upd (o := .tup [.ref kq, v]) nt
      have ht5 : upd H4 t (.tup [.ref kq, v]) t = some (.tup [.ref kq, v]) := upd_same
      have hkq5 := s5 _ _ hkq
      have hB5 := s5 _ _ hB4
      have hd5 := s5 _ _ hd4
      generalize upd H4 t (.tup [.ref kq, v]) = H5 at s5 ht5 hkq5 hB5 hd5 ⊢
      have lxs : xs.length ≤ 10000 := by
        have := congrArg List.length exs
        rw [List.length_map, List.length_take] at this
        omega
      have lrs := all.len
      -- the end
      have fin : ∀ (H6 : Hp) (b : Addr) (o : Option Int), H5 b = none → H6 = upd H5 b (LI w) → LeastIs (shopRws os) w o → ∀ t2, H6 t2 = none → ∃ acc, upd H6 t2 (.tup [.ref b, optV o]) B = some (.lst acc) ∧ acc.length < sizeLine ∧ (Same H1 (upd (upd H6 t2 (.tup [.ref b, optV o])) B (.lst (acc ++ [.ref t2]))) ∧ SameBut d H2 (upd (upd H6 t2 (.tup [.ref b, optV o])) B (.lst (acc ++ [.ref t2]))) ∧ upd (upd H6 t2 (.tup [.ref b, optV o])) B (.lst (acc ++ [.ref t2])) d = some (.frz od (.dT (((lesserF ws).map keyW).zip vs))) ∧ ∃ (rs : List Addr) (xs : List TR), upd (upd H6 t2 (.tup [.ref b, optV o])) B (.lst (acc ++ [.ref t2])) B = some (.lst (rs.map V.ref)) ∧ Al (TRowF H (cutH B (upd (upd H6 t2 (.tup [.ref b, optV o])) B (.lst (acc ++ [.ref t2]))))) rs xs ∧ (xs.map (·.1)).Nodup ∧ xs.map (·.2.1) = (lesserF ws).take (j + 1) ∧ ∀ x ∈ xs, LeastIs (shopRws os) x.2.1 x.2.2) := by
        intro H6 b o nb e6 li t2 nt2
        subst e6
        have s6 := same_upd (o := LI w) nb
        have s7 := s6.trans (same_upd (o := .tup [.ref b, optV o]) nt2)
        have s47 := s5.trans s7
        have nbB : b ≠ B := fun z => by rw [z, hB5] at nb; cases nb
        have nt2B : t2 ≠ B := fun z => by rw [z, s6 _ _ hB5] at nt2; cases nt2
        have nbx : ∀ y ∈ xs.map (·.1), y ≠ b := fun y hy z => by
          obtain ⟨x, hx, e⟩ := List.mem_map.mp hy
          obtain ⟨i, hi, e2⟩ := List.getElem_of_mem hx
          have g : rs[i]? = some (rs[i]'(by omega)) := List.getElem?_eq_getElem (by omega)
          obtain ⟨y', hy', hln⟩ := all.get g
          rw [List.getElem?_eq_getElem hi, e2] at hy'
          cases Option.some.inj hy'
          have := s5 _ _ (cut_some hln.2.1).2
          rw [e, z, nb] at this
          cases this
        have fr : ∀ x, H4 x = none → H x = none := fun x hx => e1.free _ (s14.free hx)
        refine ⟨_, s47 _ _ hB4, szL' (by rw [List.length_map]; omega), sm_new (s14.trans s47) nB1, ?_, ?_, rs ++ [t2], xs ++ [(b, w, o)], ?_, ?_, ?_, ?_, fun x hx => ?_⟩
        · intro c oc nc hc
          have h7 := (sd4.trans (.of s47)) c oc nc hc
          rw [upd_ne (fun z => by
            rw [z] at hc
            have e3 := sd _ _ nBd hc
            rw [nB] at e3
            cases e3)]
          exact h7
        · rw [upd_ne nBd.symm]
          exact s47 _ _ hd4
        · rw [upd_same, List.map_append]
          rfl
        · rw [cut_off]
          refine Al.app (all.imp fun l x h => h.ke (.of (cut_mono s47))) (.one ⟨cut_put nt2B upd_same, cut_put nbB ?_, fr _ (s5.free (s6.free nt2)), fr _ (s5.free nb)⟩)
          rw [upd_ne (ne_of_none upd_same nt2)]
          exact upd_same
        · rw [List.map_append]
          refine List.nodup_append.mpr ⟨ndp, by simp, fun x hx y hy => ?_⟩
          rw [List.mem_singleton.mp hy]
          exact nbx x hx
        · rw [List.map_append, exs, take_succ_at hw]
          rfl
        · rcases List.mem_append.mp hx with z | z
          · exact hli x z
          · rw [List.mem_singleton.mp z]
            exact li
      refine ⟨t, _, rfl, SqT.of ht5, rfl, _, _, rfl, _, _, rfl, rfl, rfl, _, rfl, kq, _, rfl, .inr (SqT.of hkq5), fun b nb => ?_⟩
      rcases sv with ⟨rfl, li⟩ | ⟨pb, p, rfl, li, way⟩
      · refine ⟨_, rfl, rfl, true, rfl, by show 2 ≤ sizeLine; decide, fun t2 nt2 => ?_⟩
        exact fin _ b none nb rfl li t2 nt2
      · have hf : ∃ y, H2 pb = some (.tup [.int p, y]) := by
          rcases way with ⟨_, z⟩ | ⟨_, _, _, _, _, _, z, _⟩
          · exact ⟨_, z⟩
          · exact ⟨_, z⟩
        obtain ⟨yf, hf⟩ := hf
        have npd : pb ≠ d := fun z => by rw [z, hd2] at hf; cases hf
        have hf6 := (same_upd (o := LI w) nb) _ _ (s5 _ _ (sd4 _ _ npd hf))
        refine ⟨_, rfl, rfl, false, rfl, ?_⟩
        refine ⟨_, rfl, pb, _, _, _, rfl, rfl, SqT.of hf6, atI_nat (j := 0) rfl, by show 2 ≤ sizeLine; decide, fun t2 nt2 => ?_⟩
        exact fin _ b (some p) nb rfl li t2 nt2
    · obtain ⟨s14, sd4, hd4, rs, xs, hB4, all, ndp, exs, hli⟩ := hp
      rw [lzip, List.take_length] at exs
      refine ⟨hd4, ?_⟩
      have s1f : Same H1 (upd H4 d (.dT (((lesserF ws).map keyW).zip vs))) := sm_new s14 nd
      have kd : ∀ {b o}, H4 b = some o → (∀ x y, o ≠ .frz x y) → upd H4 d (.dT (((lesserF ws).map keyW).zip vs)) b = some o := fun {b o} hb hn => by
        rw [upd_ne (fun z => by rw [z, hd4] at hb; exact hn _ _ (Option.some.inj hb).symm)]
        exact hb
      refine q _ B xs (e1.trans (.same s1f e1.t1)) (e1.free _ nB1) ⟨rs, kd hB4 (fun _ _ z => nomatch z), all.imp fun a x h => ⟨kd (cut_some h.1).2 (fun _ _ z => nomatch z), kd (cut_some h.2.1).2 (fun _ _ z => nomatch z), h.2.2⟩, ndp, fun hB => ?_, e1.free _ nB1⟩ exs hli
      obtain ⟨x, hx, e⟩ := List.mem_map.mp hB
      obtain ⟨i, hi, e2⟩ := List.getElem_of_mem hx
      have lrs := all.len
      have g : rs[i]? = some (rs[i]'(by omega)) := List.getElem?_eq_getElem (by omega)
      obtain ⟨y', hy', hln⟩ := all.get g
      rw [List.getElem?_eq_getElem hi, e2] at hy'
      cases Option.some.inj hy'
      exact (cut_some hln.2.1).1 e
end
/-! ### _law_groups -/
abbrev s_law_groups : Stmt := topS 38
abbrev N_law_groups : List Str := ["_law_places", "_law_found", "_law_place", "_law_one"]
theorem sc_law_groups : FnScope N_law_groups ["_law_places"] (defScope s_law_groups) := ⟨rfl, rfl, rfl, by decide +kernel, rfl, by decide +kernel, by decide +kernel⟩

def sp_groups : Sp := fun vs H Q _ => ∃ (a : Addr) (ps : List Int), vs = [.ref a] ∧ H a = some (LI ps) ∧ ps.length ≤ 8 ∧ ∀ H' q (as : List Addr), Same H H' → H q = none → H' q = some (.lst (as.map V.ref)) → Al (RowF H H') as (choicesM ps) → Q (.ref q) H'
section
variable {P : Program} {w : World} {K : PySem.W.Frag} {mg : Str → Option Value} {base : Heap} {T : List Addr}
theorem ok_groups {f : Addr} {fd : FuncData} {k : Nat} (M : Names mg) (D : Def K mg "_law_groups" s_law_groups ["_law_places"] f fd) : FnOk P w K mg base CX0 (k + 1) f fd ["_law_places"] sp_groups := by
  refine D.F.ok sc_law_groups (fun vs H Q E h => ?_) (fun cdv A outer s H vs Q E hr h => ?_)
  · obtain ⟨a, ps, rfl, _⟩ := h
    rfl
  · obtain ⟨a, ps, rfl, ha, h8, q⟩ := h
    refine ⟨_, (pss_cons (ps_set (i := 1) sc_law_groups.nd rfl (Or.inl rfl) (pe_lst (pa_cons (pe_lst pa_nil) pa_nil)))
  (pss_cons (ps_for PassesOwn.never rfl (pi_list (pe_revL (pv 0))) (pg_name (i := 2) sc_law_groups.nd rfl (Or.inr rfl))
   (pss_one (ps_set (i := 1) sc_law_groups.nd rfl (Or.inl rfl) (pe_op op_cat (pe_op op_cat (pe_slice sl_list (pv 1) po_none (po_some pe_int)) (pe_lc (own := [("_law_one", 3)]) (by rfl) sc_law_groups.nd (pi_list (pv 1)) (blkOk_by (own := [("_law_one", 3)]) (N := N_law_groups) (sc := defScope s_law_groups) (by decide +kernel)) (fun _ _ _ _ _ => (pg_name (i := 3) sc_law_groups.nd rfl (Or.inl rfl))) (fun _ _ _ _ _ => pts_nil) (fun _ _ _ _ _ => (pe_op op_cat (pe_lst (pa_cons (pv 2) pa_nil)) (pv 3))))) (pe_slice sl_list (pv 1) (po_some pe_int) po_none)))))
  (pss_one (ps_ret (pv 1))))), ?_⟩
    refine ⟨Nat.zero_le _, fun z nz => ⟨by show 1 ≤ sizeLine; decide, fun t nt => ?_⟩⟩
    have nzt : z ≠ t := ne_of_none upd_same nt
    have s0 : Same H (upd (upd H z (.lst [])) t (.lst [.ref z])) := (same_upd nz).trans (same_upd nt)
    refine ⟨_, rfl, a, _, rfl, SqL.of (s0 _ _ ha), fun R nR => ?_⟩
    have sR := same_upd (o := .lst (ps.map V.int).reverse) nR
    have hR : upd (upd (upd H z (.lst [])) t (.lst [.ref z])) R (.lst (ps.map V.int).reverse) R = some (.lst (ps.reverse.map V.int)) := by rw [upd_same, List.map_reverse]
    have s0R := s0.trans sR
    have ht0 : upd (upd (upd H z (.lst [])) t (.lst [.ref z])) R (.lst (ps.map V.int).reverse) t = some (.lst [.ref z]) := sR _ _ upd_same
    have hz0 : upd (upd (upd H z (.lst [])) t (.lst [.ref z])) R (.lst (ps.map V.int).reverse) z = some (LI []) := sR _ _ ((same_upd nt) _ _ upd_same)
    have nRH : H R = none := s0.free nR
    have ntH : H t = none := (same_upd nz).free nt
    generalize upd (upd (upd H z (.lst [])) t (.lst [.ref z])) R (.lst (ps.map V.int).reverse) = H0 at hR s0R ht0 hz0 ⊢
    clear s0 sR nR nt
    refine ⟨R, rfl, ⟨_, SqL.of hR⟩, for_list (K := K) (a := R) (xs := ps.reverse.map V.int) (fun i σ H' => ∃ t y2 as, σ = [some (.ref a), some (.ref t), y2, none] ∧ Same H H' ∧ Same H0 H' ∧ H t = none ∧ H' t = some (.lst (as.map V.ref)) ∧ Al (RowF H H') as (choicesM (ps.drop (ps.length - i)))) ⟨t, none, [z], rfl, s0R, fun _ _ e => e, ntH, ht0, ?_⟩ (fun i σ H' _ hp => ?_) (fun i x σ H2 hx hp => ?_) (fun σ H1 hp => ?_)⟩
    · rw [Nat.sub_zero, List.drop_length]
      exact .one ⟨hz0, nz⟩
    · obtain ⟨t, y2, as, _, _, s1, _⟩ := hp
      exact SqL.of (s1 _ _ hR)
    · obtain ⟨t1, y2, as, rfl, s1, s01, nt1, ht1, al⟩ := hp
      obtain ⟨n, hn', rfl⟩ := of_get_ints hx
      have hi : i < ps.length := by
        have := (List.getElem?_eq_some_iff.mp hn').1
        rw [List.length_reverse] at this
        exact this
      have hn : ps[ps.length - 1 - i]? = some n := by
        rw [List.getElem?_reverse hi] at hn'
        exact hn'
      have ed : ps.drop (ps.length - (i + 1)) = n :: ps.drop (ps.length - i) := by
        have hlt : ps.length - 1 - i < ps.length := by omega
        rw [show ps.length - (i + 1) = ps.length - 1 - i by omega, List.drop_eq_getElem_cons hlt, show ps.length - 1 - i + 1 = ps.length - i by omega]
        congr 1
        exact (List.getElem?_eq_some_iff.mp hn).2
      generalize hrs : choicesM (ps.drop (ps.length - i)) = rs at al
      have lrs : rs.length ≤ 256 := by
        rw [← hrs]
        exact choicesM_le (by rw [List.length_drop]; omega)
      have lal := al.len
      obtain ⟨z, ar, rfl⟩ : ∃ z ar, as = z :: ar := by
        cases as with
        | nil =>
          have := choices_head (ps.drop (ps.length - i))
          rw [hrs] at this
          rw [this] at lal
          simp at lal
        | cons z ar => exact ⟨z, ar, rfl⟩
      have hz1 : H2 z = some (LI []) ∧ H z = none := by
        have hh := choices_head (ps.drop (ps.length - i))
        rw [hrs] at hh
        rw [hh] at al
        exact al.1
      refine ⟨_, rfl, _, rfl, t1, _, rfl, SqL.of ht1, fun e ne => ?_⟩
      have ecut : cutV ((z :: ar).map V.ref) none (some 1) = [.ref z] := by
        unfold cutV
        have a1 : HT.sIx ((z :: ar).map V.ref).length ((z :: ar).map V.ref).length (some ((1 : Nat) : Int)) = min 1 ((z :: ar).map V.ref).length := HT.sIx_nat _ _ _
        rw [show (1 : Int) = ((1 : Nat) : Int) from rfl, a1, HT.sIx_none, List.drop_zero, Nat.sub_zero, List.length_map, List.length_cons, Nat.min_eq_left (by omega)]
        rfl
      rw [ecut]
      have s2 : Same H2 (upd H2 e (.lst [.ref z])) := same_upd ne
      have hz2 : upd H2 e (.lst [.ref z]) z = some (LI []) := s2 _ _ hz1.1
      have he2 : upd H2 e (.lst [.ref z]) e = some (.lst [.ref z]) := upd_same
      generalize upd H2 e (.lst [.ref z]) = H3 at s2 hz2 he2 ⊢
      generalize has : z :: ar = as at al lal ht1
      refine ⟨_, rfl, t1, rfl, ⟨_, SqL.of (s2 _ _ ht1)⟩, fun C nC => lc_list (xs := as.map V.ref) (fun j H' => Same H3 H' ∧ ∃ cs : List Addr, H' C = some (.lst (cs.map V.ref)) ∧ Al (RowB H H' C) cs ((rs.take j).map (n :: ·))) ⟨same_upd nC, [], upd_same, True.intro⟩ (fun j H' _ hp => SqL.of (hp.1 _ _ (s2 _ _ ht1))) (fun j x H4 hx hp => ?_) (fun H4 hp => ?_)⟩
      · obtain ⟨s4, cs, hC, alc⟩ := hp
        rw [List.getElem?_map] at hx
        cases hu : as[j]? with
        | none => rw [hu] at hx; cases hx
        | some u =>
          rw [hu] at hx
          cases Option.some.inj hx
          obtain ⟨r, hr, hur⟩ := al.get hu
          have lr : r.length ≤ 8 := by
            have : ∀ (ps : List Int) r, r ∈ choicesM ps → r.length ≤ ps.length := by
              intro ps
              induction ps with
              | nil => intro r h; rw [List.mem_singleton.mp h]; exact Nat.le_refl _
              | cons p ps ih =>
                intro r h
                rcases List.mem_append.mp h with h | h
                · rcases List.mem_append.mp h with h | h
                  · rw [List.mem_singleton.mp h]; exact Nat.zero_le _
                  · obtain ⟨r', h', rfl⟩ := List.mem_map.mp h
                    have := ih r' h'
                    rw [List.length_cons, List.length_cons]
                    omega
                · have := ih r (List.mem_of_mem_tail h)
                  rw [List.length_cons]
                  omega
            have := this (ps.drop (ps.length - i)) r (by rw [hrs]; exact List.mem_of_getElem? hr)
            rw [List.length_drop] at this
            omega
          refine ⟨rfl, _, rfl, by show 1 ≤ sizeLine; decide, fun g ng => ?_⟩
          have hu4 : H4 u = some (LI r) := s4 _ _ (s2 _ _ hur.1)
          have ngu : u ≠ g := ne_of_none hu4 ng
          refine ⟨_, rfl, g, u, _, _, rfl, rfl, upd_same, (by rw [upd_ne ngu]; exact hu4), szL (by rw [List.length_map]; show 1 + r.length ≤ _; omega), fun v nv => ?_⟩
          have s5 : Same H4 (upd (upd H4 g (.lst [.int n])) v (.lst ([.int n] ++ r.map V.int))) := (same_upd ng).trans (same_upd nv)
          have lc := alc.len
          rw [List.length_map, List.length_take] at lc
          refine ⟨_, s5 _ _ hC, szL' (by rw [List.length_map]; omega), sm_new (s4.trans s5) nC, cs ++ [v], ?_, ?_⟩
          · rw [upd_same, List.map_append]
            rfl
          · have nvC : v ≠ C := fun z => by
              rw [z] at nv
              rw [(same_upd ng) _ _ hC] at nv
              cases nv
            rw [take_succ_at hr, List.map_append]
            exact Al.app (alc.imp fun a x h => h.keep ((SameBut.of s5).trans .upd)) (.one ⟨by rw [upd_ne nvC, upd_same]; rfl, ((s1.trans s2).trans s4).free ((same_upd ng).free nv), nvC⟩)
      · obtain ⟨s4, cs, hC, alc⟩ := hp
        rw [List.length_map, lal, List.take_length] at alc
        have lc := alc.len
        rw [List.length_map] at lc
        refine ⟨e, C, _, _, rfl, rfl, s4 _ _ he2, hC, szL (by rw [List.length_map]; show 1 + _ ≤ _; omega), fun g ng => ?_⟩
        refine ⟨_, rfl, 1, rfl, t1, _, rfl, SqL.of ((same_upd ng) _ _ (s4 _ _ (s2 _ _ ht1))), fun sl nsl => ?_⟩
        have s5 : Same H4 (upd (upd H4 g (.lst ([.ref z] ++ cs.map V.ref))) sl (.lst (cutV (as.map V.ref) (some 1) none))) := (same_upd ng).trans (same_upd nsl)
        have hg5 : upd (upd H4 g (.lst ([.ref z] ++ cs.map V.ref))) sl (.lst (cutV (as.map V.ref) (some 1) none)) g = some (.lst ([.ref z] ++ cs.map V.ref)) := (same_upd nsl) _ _ upd_same
        refine ⟨g, sl, _, _, rfl, rfl, hg5, upd_same, szL (by rw [cut1, List.length_drop, List.length_map, List.length_append, List.length_map]; show 1 + _ + _ ≤ _; omega), fun t' nt' => ?_⟩
        have s6 := s5.trans (same_upd (o := .lst ([.ref z] ++ cs.map V.ref ++ cutV (as.map V.ref) (some 1) none)) nt')
        have s46 := (s2.trans s4).trans s6
        refine ⟨t', _, ([z] ++ cs) ++ as.drop 1, rfl, s1.trans s46, s01.trans s46, ((s1.trans (s2.trans s4)).trans s5).free nt', ?_, ?_⟩
        · rw [upd_same, cut1, List.map_append, List.map_append, List.map_drop]
          rfl
        · rw [ed]
          show Al _ _ (([[]] ++ (choicesM (ps.drop (ps.length - i))).map (n :: ·)) ++ (choicesM (ps.drop (ps.length - i))).tail)
          rw [hrs]
          exact Al.app (Al.app (.one ⟨s6 _ _ (s4 _ _ hz2), hz1.2⟩) (alc.imp fun a x h => h.toF.keep s6)) ((al.drop1).imp fun a x h => h.keep s46)
    · obtain ⟨t1, y2, as, rfl, s1, s01, nt1, ht1, al⟩ := hp
      rw [List.length_map, List.length_reverse, Nat.sub_self, List.drop_zero] at al
      exact ⟨_, rfl, q H1 t1 as s1 nt1 ht1 al⟩
end
/-! ### _law_sum, _law_lines -/
abbrev s_law_sum : Stmt := topS 39
abbrev N_law_sum : List Str := ["_law_one", "_law_other", "_law_k"]
theorem sc_law_sum : FnScope N_law_sum ["_law_one", "_law_other"] (defScope s_law_sum) := ⟨rfl, rfl, rfl, by decide +kernel, rfl, by decide +kernel, by decide +kernel⟩

abbrev s_law_lines : Stmt := topS 40
abbrev N_law_lines : List Str := ["_law_shop_here", "_law_found", "_law_place", "_law_offer", "_law_own", "_law_adds", "_law_count", "_law_content_here", "_law_price_here", "_law_add", "_law_k", "_law_one", "_law_tier"]
theorem sc_law_lines : FnScope N_law_lines ["_law_shop_here"] (defScope s_law_lines) := ⟨rfl, rfl, rfl, by decide +kernel, rfl, by decide +kernel, by decide +kernel⟩

def sp_sum (K : PySem.W.Frag) : Sp := fun vs H Q _ => ∃ (a b : Addr) (xs ys : List Int), vs = [.ref a, .ref b] ∧ H a = some (LI xs) ∧ H b = some (LI ys) ∧ xs.length = ys.length ∧ xs.length ≤ 1000 ∧ ∀ H' q, Same H H' → H q = none → H' q = some (LI (togM xs ys)) → Q (.ref q) H'
section
variable {P : Program} {w : World} {K : PySem.W.Frag} {mg : Str → Option Value} {base : Heap}
theorem ok_sum {f : Addr} {fd : FuncData} {k : Nat} (M : Names mg) (D : Def K mg "_law_sum" s_law_sum ["_law_one", "_law_other"] f fd) : FnOk P w K mg base CX0 (k + 1) f fd ["_law_one", "_law_other"] (sp_sum K) := by
  refine D.F.ok sc_law_sum (fun vs H Q E h => ?_) (fun cdv A outer s H vs Q E hr h => ?_)
  · obtain ⟨a, b, xs, ys, rfl, _⟩ := h
    rfl
  · obtain ⟨a, b, xs, ys, rfl, ha, hb, hl, h1000, q⟩ := h
    refine ⟨_, (pss_one (ps_ret (pe_lc (own := [("_law_k", 2)]) (by rfl) sc_law_sum.nd (pi_range1 (by rfl) M.range (pa_cons (pe_callB call_len_seq (by rfl) M.len (by decide +kernel) (pa_cons (pv 0) pa_nil)) pa_nil)) (blkOk_by (own := [("_law_k", 2)]) (N := N_law_sum) (sc := defScope s_law_sum) (by decide +kernel)) (fun _ _ _ _ _ => (pg_name (i := 2) sc_law_sum.nd rfl (Or.inl rfl))) (fun _ _ _ _ _ => pts_nil) (fun _ _ _ _ _ => (pe_op op_add (pe_ix (ix_listK (K := K) rfl) (pv 0) (pv 2) (fun _ _ => rfl)) (pe_ix (ix_listK (K := K) rfl) (pv 1) (pv 2) (fun _ _ => rfl))))))), ?_⟩
    refine ⟨_, rfl, a, _, rfl, .inl (SqL.of ha), _, rfl, by rw [List.length_map]; omega, by rw [List.length_map]; omega, fun B nB => lc_range (lo := 0) (n := ((xs.map V.int).length : Int).toNat) (fun i H' => Same H H' ∧ H' B = some (LI ((togM xs ys).take i))) ⟨same_upd nB, upd_same⟩ (fun i H1 hi hp => ?_) (fun H1 hp => ?_)⟩
    · obtain ⟨s1, hB⟩ := hp
      rw [Int.toNat_natCast, List.length_map] at hi
      have gx := List.getElem?_eq_getElem hi
      have gy := List.getElem?_eq_getElem (show i < ys.length by omega)
      refine ⟨rfl, _, rfl, _, rfl, a, _, _, _, rfl, rfl, SqL.of (s1 _ _ ha), at_of (Int.zero_add _) (get_ints gx), _, rfl, _, rfl, b, _, _, _, rfl, rfl, SqL.of (s1 _ _ hb), at_of (Int.zero_add _) (get_ints gy), _, _, rfl, rfl, _, hB, szL' (by rw [List.length_map, List.length_take]; omega), sm_new s1 nB, ?_⟩
      rw [take_succ_at (togM_get gx gy)]
      exact at_app
    · obtain ⟨s1, hB⟩ := hp
      rw [Int.toNat_natCast, List.length_map, List.take_of_length_le (by rw [togM_len]; omega)] at hB
      exact q H1 B s1 nB hB
end
/-- wares, apart from d -/
def WaresAt (d : Addr) (H : Hp) (q : Addr) (xs : List PR) : Prop := q ≠ d ∧ ∃ as : List Addr, H q = some (.lst (as.map V.ref)) ∧ Al (PRowAt (cutH d H)) as xs
def sp_wares : Sp := fun vs H Q _ => ∃ (a d : Addr) (os : List Ofr) (ds : List V) (m : Nat), vs = [.ref a] ∧ H d = some (.lst ds) ∧ ShopAt (cutH d H) a os ∧ Good os ∧ FitS m os ∧ m ≤ 1000 ∧ ∀ H' q, Same H H' → H q = none → WaresAt d H' q (prowsM os) → Q (.ref q) H'
abbrev rowsAt (os : List Ofr) (p : Nat) : List PR := (linesAtM os p).map (prowM os)
theorem prows_flat (os : List Ofr) : prowsM os = (List.range os.length).flatMap (rowsAt os) := by
  unfold prowsM linesM
  rw [List.map_flatMap]
theorem rowsAt_len {os : List Ofr} (h : os.length ≤ 8) (p : Nat) : (rowsAt os p).length ≤ 256 := by
  rw [List.length_map]
  exact linesAtM_len h p
theorem rowsN_len {os : List Ofr} (h : os.length ≤ 8) (n : Nat) : ((List.range n).flatMap (rowsAt os)).length ≤ n * 256 := by
  have := linesN_len h n
  rw [← List.map_flatMap, List.length_map]
  exact this
theorem cut2_off {F d : Addr} {H : Hp} {o : HO} (n : F ≠ d) : cutH F (cutH d (upd H F o)) = cutH F (cutH d H) := by
  rw [cut_upd n, cut_off]
theorem map_one (c : List Int) : c.map ((1 : Int) * ·) = c := by
  induction c with
  | nil => rfl
  | cons a r ih => rw [List.map_cons, ih, Int.one_mul]
section
variable {P : Program} {w : World} {K : PySem.W.Frag} {mg : Str → Option Value} {base : Heap}
theorem ok_wares {f f1 f2 : Addr} {fd fd1 fd2 : FuncData} {k : Nat} (M : Names mg) (D : Def K mg "_law_lines" s_law_lines ["_law_shop_here"] f fd) (D_law_groups : Def K mg "_law_groups" s_law_groups ["_law_places"] f1 fd1) (D_law_sum : Def K mg "_law_sum" s_law_sum ["_law_one", "_law_other"] f2 fd2) : FnOk P w K mg base CX0 (k + 2) f fd ["_law_shop_here"] sp_wares := by
  have G_law_groups : FnOk P w K mg base CX0 (k + 1) f1 fd1 ["_law_places"] sp_groups := ok_groups M D_law_groups
  have G_law_sum : FnOk P w K mg base CX0 (k + 1) f2 fd2 ["_law_one", "_law_other"] (sp_sum K) := ok_sum M D_law_sum
  refine D.F.ok sc_law_lines (fun vs H Q E h => ?_) (fun cdv A outer s H vs Q E hr h => ?_)
  · obtain ⟨a, d, os, ds, m, rfl, _⟩ := h
    rfl
  · obtain ⟨a, d, os, ds, m, rfl, hd, hS, gd, ft, hm, q⟩ := h
    obtain ⟨vs, h1, h2, h3⟩ := id hS
    have h1' := (cut_some h1).2
    have h8 := gd.1
    refine ⟨_, (pss_cons (ps_set (i := 1) sc_law_lines.nd rfl (Or.inl rfl) (pe_lst pa_nil))
  (pss_cons (ps_for PassesOwn.never rfl (pi_enum (by rfl) M.enumerate (pa_cons (pv 0) pa_nil)) (pg_tup rfl (pgs_cons (pg_name (i := 2) sc_law_lines.nd rfl (Or.inr rfl)) (pgs_cons (pg_name (i := 3) sc_law_lines.nd rfl (Or.inl rfl)) pgs_nil)))
   (pss_cutI (ps_if (pt_cmpR op_eq (pe_ix ix_tup (pv 3) pe_int (fun _ _ => rfl)) pe_str (nomark _))
   (pss_cons (ps_setLc (i := 4) (own := [("_law_k", 10), ("_law_one", 11)]) (by rfl) sc_law_lines.nd rfl rfl (sw_true rfl rfl rfl (by decide +kernel)) (pi_enum (by rfl) M.enumerate (pa_cons (pv 0) pa_nil)) (blkOk_by (own := [("_law_k", 10), ("_law_one", 11)]) (N := N_law_lines) (sc := defScope s_law_lines) (by decide +kernel)) (fun _ _ _ _ _ => (pg_tupK (K := K) (n := 2) rfl rfl (pgs_cons (pg_name (i := 10) sc_law_lines.nd rfl (Or.inl rfl)) (pgs_cons (pg_name (i := 11) sc_law_lines.nd rfl (Or.inl rfl)) pgs_nil)))) (fun _ _ _ _ _ => (pts_one (PW.pt (pw_and (pt_cmpR op_eq (pe_ix (ix_tupK (K := K) rfl) (pv 11) pe_int (fun _ _ => rfl)) pe_str (nomark _)) (pw_and1 (pt_cmpR op_eq (pe_ix (ix_tupK (K := K) rfl) (pv 11) pe_int (fun _ _ => rfl)) (pv 2) (nomark _))))))) (fun _ _ _ _ _ => (pv 10)))
  (pss_one (ps_for PassesOwn.never rfl (pi_list (pe_call G_law_groups hr (by rfl) D_law_groups.g D_law_groups.F.kp D_law_groups.b .nil pass0 (pa_cons (pv 4) pa_nil))) (pg_name (i := 5) sc_law_lines.nd rfl (Or.inl rfl))
   (pss_cons (ps_set (i := 7) sc_law_lines.nd rfl (Or.inl rfl) (pe_ix ix_tup (pv 3) pe_int (fun _ _ => rfl)))
  (pss_cons (ps_set (i := 8) sc_law_lines.nd rfl (Or.inl rfl) (pe_ix ix_tup (pv 3) pe_int (fun _ _ => rfl)))
  (pss_cons (ps_for PassesOwn.never rfl (pi_list (pv 5)) (pg_name (i := 9) sc_law_lines.nd rfl (Or.inl rfl))
   (pss_cons (ps_set (i := 7) sc_law_lines.nd rfl (Or.inl rfl) (pe_call G_law_sum hr (by rfl) D_law_sum.g D_law_sum.F.kp D_law_sum.b .nil pass0 (pa_cons (pv 7) (pa_cons (pe_ix ix_tup (pe_ix ix_list (pv 0) (pv 9) (fun _ _ => rfl)) pe_int (fun _ _ => rfl)) pa_nil))))
  (pss_one (ps_set (i := 8) sc_law_lines.nd rfl (Or.inl rfl) (pe_op op_add (pv 8) (pe_ix ix_tup (pe_ix ix_list (pv 0) (pv 9) (fun _ _ => rfl)) pe_int (fun _ _ => rfl)))))))
  (pss_one (ps_expr (pe_bm PySem.F.plainAttrs_list PySem.F.slot_list_append PySem.F.type_list_append mt_append (pv 1) (pa_cons (pe_tup (pa_cons (pe_tup (pa_cons (pv 2) (pa_cons pe_int (pa_cons (pv 5) pa_nil)))) (pa_cons (pv 7) (pa_cons (pv 8) pa_nil)))) pa_nil))))))))))
   pss_nil)
  (pss_one (ps_if (pt_cmpR op_eq (pe_ix ix_tup (pv 3) pe_int (fun _ _ => rfl)) pe_str (nomark _))
   (pss_one (ps_for PassesOwn.never rfl (pi_range2 (by rfl) M.range (pa_cons pe_int (pa_cons pe_int pa_nil))) (pg_name (i := 6) sc_law_lines.nd rfl (Or.inr rfl))
   (pss_cons (ps_set (i := 8) sc_law_lines.nd rfl (Or.inl rfl) (pe_ix ix_list (pe_lc (own := [("_law_tier", 12)]) (by rfl) sc_law_lines.nd (pi_list (pe_ix ix_tup (pv 3) pe_int (fun _ _ => rfl))) (blkOk_by (own := [("_law_tier", 12)]) (N := N_law_lines) (sc := defScope s_law_lines) (by decide +kernel)) (fun _ _ _ _ _ => (pg_name (i := 12) sc_law_lines.nd rfl (Or.inl rfl))) (fun _ _ _ _ _ => (pts_one (pt_cmpR op_le (pe_ix (ix_tupK (K := K) rfl) (pv 12) pe_int (fun _ _ => rfl)) (pv 6) (nomark _)))) (fun _ _ _ _ _ => (pe_ix (ix_tupK (K := K) rfl) (pv 12) pe_int (fun _ _ => rfl)))) (pe_un un_neg pe_int) (fun _ _ => rfl)))
  (pss_one (ps_expr (pe_bm PySem.F.plainAttrs_list PySem.F.slot_list_append PySem.F.type_list_append mt_append (pv 1) (pa_cons (pe_tup (pa_cons (pe_tup (pa_cons (pv 2) (pa_cons (pv 6) (pa_cons (pe_lst pa_nil) pa_nil)))) (pa_cons (pe_lc (own := [("_law_one", 11)]) (by rfl) sc_law_lines.nd (pi_list (pe_ix ix_tup (pv 3) pe_int (fun _ _ => rfl))) (blkOk_by (own := [("_law_one", 11)]) (N := N_law_lines) (sc := defScope s_law_lines) (by decide +kernel)) (fun _ _ _ _ _ => (pg_name (i := 11) sc_law_lines.nd rfl (Or.inl rfl))) (fun _ _ _ _ _ => pts_nil) (fun _ _ _ _ _ => (pe_op op_mul (pv 6) (pv 11)))) (pa_cons (pe_op op_mul (pv 6) (pv 8)) pa_nil)))) pa_nil)))))))
   pss_nil))))
  (pss_one (ps_ret (pv 1))))), ?_⟩
    refine ⟨Nat.zero_le _, fun F nF => ?_⟩
    have nFd : F ≠ d := (ne_of_none hd nF).symm
    refine ⟨_, rfl, a, _, rfl, SqL.of ((same_upd nF) _ _ h1'), for_it (walk_enum (xs := vs.map V.ref)) (fun i σ H' => ∃ y2 y3 y4 y5 y6 y7 y8 y9, σ = [some (.ref a), some (.ref F), y2, y3, y4, y5, y6, y7, y8, y9, none, none, none] ∧ Same H H' ∧ ∃ rs : List Addr, H' F = some (.lst (rs.map V.ref)) ∧ Al (PRowAt (cutH F (cutH d H'))) rs ((List.range i).flatMap (rowsAt os))) ⟨none, none, none, none, none, none, none, none, rfl, same_upd nF, [], upd_same, True.intro⟩ (fun i σ H' _ hp => ?_) (fun i x σ H1 H2 hi hp hy => ?_) (fun σ H1 hp => ?_)⟩
    · obtain ⟨_, _, _, _, _, _, _, _, _, s1, _⟩ := hp
      exact SqL.of (s1 _ _ h1')
    · obtain ⟨y2, y3, y4, y5, y6, y7, y8, y9, rfl, s1, rs, hF1, all⟩ := hp
      obtain ⟨Tt, x1, x2, rfl, nT, rfl, e1, e2⟩ := hy
      cases Option.some.inj e1
      rw [List.length_map] at hi
      have hi2 : i < os.length := by omega
      obtain ⟨v, o, g1, g2, g3⟩ := ShopAt.get (H := H) (a := a) h2 hi2
      have e2' : (vs.map V.ref)[i]? = some x2 := e2
      rw [g3] at e2'
      cases Option.some.inj e2'
      have ho := h3 i v o g1 g2
      have st := same_upd (o := .tup [.int (i : Nat), .ref v]) nT
      have s2 := s1.trans st
      have hF2 := st _ _ hF1
      have all2 : Al (PRowAt (cutH F (cutH d (upd H1 Tt (.tup [.int (i : Nat), .ref v]))))) rs ((List.range i).flatMap (rowsAt os)) := all.imp fun r x h => h.ke (.of (cut_mono (cut_mono st)))
      have hTt : upd H1 Tt (.tup [.int (i : Nat), .ref v]) Tt = some (.tup [.int (i : Nat), .ref v]) := upd_same
      generalize upd H1 Tt (.tup [.int (i : Nat), .ref v]) = H2 at st s2 hF2 all2 hTt ⊢
      have tot := rowsN_len h8 i
      have one := rowsAt_len h8 i
      refine ⟨Tt, _, rfl, SqT.of hTt, rfl, _, _, rfl, _, _, rfl, rfl, ?_⟩
      have fo := ft o (List.mem_of_getElem? g2)
      -- a row more
      have push : ∀ (H3 H4 : Hp) (rs : List Addr) (xs : List PR) (ra : Addr) (x : PR) (u : HO), Al (PRowAt (cutH F (cutH d H3))) rs xs → Same H3 H4 → PRowAt (cutH F (cutH d H4)) ra x → Al (PRowAt (cutH F (cutH d (upd H4 F u)))) (rs ++ [ra]) (xs ++ [x]) := fun H3 H4 rs xs ra x u al s hx => by
        rw [cut2_off nFd]
        exact Al.app (al.imp fun r x h => h.ke (.of (cut_mono (cut_mono s)))) (.one hx)
      have nH : ∀ (H3 : Hp) b, Same H H3 → H3 F ≠ none → H3 b = none → b ≠ F ∧ b ≠ d := fun H3 b s hF hb => ⟨fun z => hF (by rw [← z]; exact hb), fun z => by rw [z, s _ _ hd] at hb; cases hb⟩
      refine ⟨fun σ' H' => ∃ y4 y5 y7 y8 y9, σ' = [some (.ref a), some (.ref F), some (.int (i : Nat)), some (.ref v), y4, y5, y6, y7, y8, y9, none, none, none] ∧ Same H H' ∧ ∃ rs : List Addr, H' F = some (.lst (rs.map V.ref)) ∧ Al (PRowAt (cutH F (cutH d H'))) rs ((List.range i).flatMap (rowsAt os) ++ (match o with | .pack _ _ => rowsAt os i | _ => [])), ?_, fun σ3 H3 hI => ?_⟩
      · cases o with
        | many c ts =>
          obtain ⟨b, t', hb, _⟩ := ho
          refine ⟨_, rfl, v, _, _, _, rfl, rfl, SqT.of (s2 _ _ (cut_some hb).2), atI_nat (j := 0) rfl, rfl, false, rfl, ?_⟩
          exact ⟨_, _, _, _, _, rfl, s2, rs, hF2, by rw [List.append_nil]; exact all2⟩
        | add c pr kk =>
          obtain ⟨b, hb, _⟩ := ho
          refine ⟨_, rfl, v, _, _, _, rfl, rfl, SqT.of (s2 _ _ (cut_some hb).2), atI_nat (j := 0) rfl, rfl, false, rfl, ?_⟩
          exact ⟨_, _, _, _, _, rfl, s2, rs, hF2, by rw [List.append_nil]; exact all2⟩
        | pack c pr =>
          obtain ⟨b, hv, hb⟩ := ho
          obtain ⟨nbd, hb'⟩ := cut_some hb
          have hv' := (cut_some hv).2
          have nbF : b ≠ F := ne_of_none hb' nF
          have em : rowsAt os i = (choicesM (addsM os i)).map fun c => prowM os ⟨i, 1, c⟩ := by
            unfold rowsAt linesAtM
            rw [g2, List.map_map]
            rfl
          refine ⟨_, rfl, v, _, _, _, rfl, rfl, SqT.of (s2 _ _ hv'), atI_nat (j := 0) rfl, rfl, true, rfl, ?_⟩
          -- own
          refine ⟨_, rfl, a, _, rfl, SqL.of (s2 _ _ h1'), fun B nB => lc_it (walk_enum (xs := vs.map V.ref)) (fun j H' => Same H2 H' ∧ H' B = some (LI (addsN os i j))) ⟨same_upd nB, upd_same⟩ (fun j H' _ hp => SqL.of (hp.1 _ _ (s2 _ _ h1'))) (fun j x H3 H4 hj hp hy => ?_) (fun H3 hp => ?_)⟩
          · obtain ⟨s3, hB⟩ := hp
            obtain ⟨T2, x1, x2, rfl, nT2, rfl, e1, e2⟩ := hy
            cases Option.some.inj e1
            rw [List.length_map] at hj
            obtain ⟨u, ou, k1, k2, k3⟩ := ShopAt.get (H := H) (a := a) h2 (show j < os.length by omega)
            have e2' : (vs.map V.ref)[j]? = some x2 := e2
            rw [k3] at e2'
            cases Option.some.inj e2'
            have sT := same_upd (o := .tup [.int (j : Nat), .ref u]) nT2
            have hB2 := sT _ _ hB
            have hou := ((h3 j u ou k1 k2).same cut_le).same (s2.trans (s3.trans sT))
            have nlen := addsN_len os i j
            cases ou with
            | pack c pr =>
              obtain ⟨b, hb, _⟩ := hou
              have hn : isAdd os i j = false := by unfold isAdd; rw [k2]
              refine ⟨T2, _, rfl, SqT.of upd_same, rfl, _, _, rfl, _, _, rfl, rfl, rfl, _, rfl, u, _, _, _, rfl, rfl, SqT.of hb, atI_nat (j := 0) rfl, rfl, false, rfl, ?_⟩
              exact ⟨s3.trans sT, by rw [addsN_no hn]; exact hB2⟩
            | many c ts =>
              obtain ⟨b, t', hb, _⟩ := hou
              have hn : isAdd os i j = false := by unfold isAdd; rw [k2]
              refine ⟨T2, _, rfl, SqT.of upd_same, rfl, _, _, rfl, _, _, rfl, rfl, rfl, _, rfl, u, _, _, _, rfl, rfl, SqT.of hb, atI_nat (j := 0) rfl, rfl, false, rfl, ?_⟩
              exact ⟨s3.trans sT, by rw [addsN_no hn]; exact hB2⟩
            | add c pr kk =>
              obtain ⟨b, hb, _⟩ := hou
              refine ⟨T2, _, rfl, SqT.of upd_same, rfl, _, _, rfl, _, _, rfl, rfl, rfl, _, rfl, u, _, _, _, rfl, rfl, SqT.of hb, atI_nat (j := 0) rfl, rfl, true, rfl, ?_⟩
              refine ⟨_, rfl, u, _, _, _, rfl, rfl, SqT.of hb, atI_nat (j := 3) rfl, _, rfl, rfl, _, rfl, ite2 (fun c => ?_) (fun c => ?_)⟩
              · have ek : kk = (i : Int) := V.int.inj (of_decide_eq_true c)
                have hn : isAdd os i j = true := by unfold isAdd; rw [k2]; exact decide_eq_true ek
                refine ⟨_, rfl, _, hB2, szL' (by rw [List.length_map]; omega), sm_new (s3.trans sT) nB, ?_⟩
                rw [addsN_yes hn]
                exact at_app
              · have hn : isAdd os i j = false := by unfold isAdd; rw [k2]; exact decide_eq_false fun z => c (decide_eq_true (by rw [z]))
                exact ⟨s3.trans sT, by rw [addsN_no hn]; exact hB2⟩
          · obtain ⟨s3, hB⟩ := hp
            rw [List.length_map, h2] at hB
            have la : (addsM os i).length ≤ 8 := Nat.le_trans (addsN_len _ _ _) h8
            -- groups
            refine ⟨_, rfl, B, addsM os i, rfl, hB, la, fun H4 G gs s4 nG hG alG => ?_⟩
            have s24 := s3.trans s4
            have lg := alG.len
            have lch := choicesM_le la
            have nGF : G ≠ F := fun z => by rw [z, s3 _ _ hF2] at nG; cases nG
            have hF4 := s24 _ _ hF2
            have all4 : Al (PRowAt (cutH F (cutH d H4))) rs ((List.range i).flatMap (rowsAt os)) := all2.imp fun r x h => h.ke (.of (cut_mono (cut_mono s24)))
            have s04 := s2.trans s24
            refine ⟨G, rfl, ⟨_, SqL.of hG⟩, for_list (K := K) (a := G) (xs := gs.map V.ref) (fun j σ H' => ∃ y5 y7 y8 y9, σ = [some (.ref a), some (.ref F), some (.int (i : Nat)), some (.ref v), some (.ref B), y5, y6, y7, y8, y9, none, none, none] ∧ Same H H' ∧ SameBut F H4 H' ∧ ∃ rs : List Addr, H' F = some (.lst (rs.map V.ref)) ∧ Al (PRowAt (cutH F (cutH d H'))) rs ((List.range i).flatMap (rowsAt os) ++ ((choicesM (addsM os i)).take j).map fun c => prowM os ⟨i, 1, c⟩)) ⟨_, _, _, _, rfl, s04, .refl _ _, rs, hF4, by rw [List.take_zero, List.map_nil, List.append_nil]; exact all4⟩ (fun j σ H' _ hp => ?_) (fun j x σ H5 hx hp => ?_) (fun σ H5 hp => ?_)⟩
            · obtain ⟨_, _, _, _, _, _, sb, _⟩ := hp
              exact SqL.of (sb _ _ nGF hG)
            · obtain ⟨y5, y7, y8, y9, rfl, s5, sb5, rs5, hF5, all5⟩ := hp
              rw [List.getElem?_map] at hx
              cases hu : gs[j]? with
              | none => rw [hu] at hx; cases hx
              | some g =>
                rw [hu] at hx
                cases Option.some.inj hx
                obtain ⟨ch, hch, hg4, ng3⟩ := alG.get hu
                have ngF : g ≠ F := fun z => by rw [z, s3 _ _ hF2] at ng3; cases ng3
                have ngd : g ≠ d := fun z => by rw [z, s3 _ _ (s2 _ _ hd)] at ng3; cases ng3
                have hg5 := sb5 _ _ ngF hg4
                have chm := List.mem_of_getElem? hch
                obtain ⟨lch1, hsub⟩ := choices_mem chm
                have lr5 := all5.len
                rw [List.length_append, List.length_map, List.length_take] at lr5
                have lk : LineOk os ⟨i, 1, ch⟩ := linesAt_ok gd (p := i) (by unfold linesAtM; rw [g2]; exact List.mem_map.mpr ⟨ch, chm, rfl⟩)
                refine ⟨_, rfl, v, _, _, _, rfl, rfl, SqT.of (s5 _ _ hv'), atI_nat (j := 1) rfl, ?_⟩
                refine ⟨_, rfl, v, _, _, _, rfl, rfl, SqT.of (s5 _ _ hv'), atI_nat (j := 2) rfl, ?_⟩
                refine ⟨_, rfl, g, rfl, ⟨_, SqL.of hg5⟩, for_list (K := K) (a := g) (xs := ch.map V.int) (fun t σ H' => ∃ (cc : Addr) (cs : List Int) (y9 : Option V), σ = [some (.ref a), some (.ref F), some (.int (i : Nat)), some (.ref v), some (.ref B), some (.ref g), y6, some (.ref cc), some (.int (pr + ((ch.take t).map (addPr os)).sum)), y9, none, none, none] ∧ Same H5 H' ∧ H' cc = some (LI cs) ∧ cc ≠ F ∧ cc ≠ d ∧ cs.length = m ∧ cs = (ch.take t).foldl (fun acc x => togM acc (contAt os x)) c) ⟨b, c, y9, by rw [List.take_zero]; show _ = [_, _, _, _, _, _, _, _, some (V.int (pr + 0)), _, _, _, _]; rw [Int.add_zero]; rfl, fun _ _ e => e, s5 _ _ hb', nbF, nbd, fo.1, rfl⟩ (fun t σ H' _ hp => ?_) (fun t x σ H6 hx hp => ?_) (fun σ H6 hp => ?_)⟩
                · obtain ⟨_, _, _, _, s6, _⟩ := hp
                  exact SqL.of (s6 _ _ hg5)
                · obtain ⟨cc, cs, y9, rfl, s6, hcc, ncF, ncd, lcs, ecs⟩ := hp
                  obtain ⟨n, hn, rfl⟩ := of_get_ints hx
                  obtain ⟨jj, rfl, hjl, c', p', hadd⟩ := adds_mem (hsub n (List.mem_of_getElem? hn))
                  obtain ⟨u, ou, k1, k2, k3⟩ := ShopAt.get (H := H) (a := a) h2 hjl
                  cases Option.some.inj (k2.symm.trans hadd)
                  obtain ⟨bu, hu1, hu2⟩ := ((h3 jj u _ k1 k2).same cut_le).same (s5.trans s6)
                  have fu := ft _ (List.mem_of_getElem? hadd)
                  have ha6 := (s5.trans s6) _ _ h1'
                  refine ⟨_, rfl, _, rfl, _, rfl, a, _, _, _, rfl, rfl, SqL.of ha6, atI_nat k3, u, _, _, _, rfl, rfl, SqT.of hu1, atI_nat (j := 1) rfl, cc, bu, cs, c', rfl, hcc, hu2, by rw [lcs, fu.1], by omega, fun H7 q7 s7 nq7 hq7 => ?_⟩
                  have hu17 := s7 _ _ hu1
                  have ha7 := s7 _ _ ha6
                  have hF7 : H6 F ≠ none := by rw [s6 _ _ hF5]; exact fun z => nomatch z
                  obtain ⟨n1, n2⟩ := nH H6 q7 (s5.trans s6) hF7 nq7
                  refine ⟨_, rfl, _, rfl, _, rfl, a, _, _, _, rfl, rfl, SqL.of ha7, atI_nat k3, u, _, _, _, rfl, rfl, SqT.of hu17, atI_nat (j := 2) rfl, _, _, rfl, rfl, ?_⟩
                  refine ⟨q7, togM cs c', some (.int ((jj : Nat) : Int)), ?_, s6.trans s7, hq7, n1, n2, by rw [togM_len, lcs, fu.1]; exact Nat.min_self m, ?_⟩
                  · rw [take_succ_at hn, List.map_append, List.sum_append]
                    have ea : addPr os ((jj : Nat) : Int) = p' := by unfold addPr; rw [Int.toNat_natCast, hadd]
                    show _ = [_, _, _, _, _, _, _, _, some (V.int (pr + (((ch.take t).map (addPr os)).sum + (addPr os ((jj : Nat) : Int) + 0)))), _, _, _, _]
                    rw [ea, Int.add_zero, ← Int.add_assoc]
                    rfl
                  · rw [take_succ_at hn, List.foldl_append, ← ecs]
                    show togM cs c' = togM cs (contAt os ((jj : Nat) : Int))
                    rw [contAt_get hadd]
                    rfl
                · obtain ⟨cc, cs, y9, rfl, s6, hcc, ncF, ncd, lcs, ecs⟩ := hp
                  rw [List.length_map, List.take_length] at ecs
                  rw [List.length_map, List.take_length]
                  have hF6 := s6 _ _ hF5
                  have s06 := s5.trans s6
                  have hF6n : H6 F ≠ none := by rw [hF6]; exact fun z => nomatch z
                  refine ⟨_, rfl, .inl ⟨rfl, _, SqL.of hF6⟩, _, rfl, _, rfl, by show 3 ≤ sizeLine; decide, fun lt nlt => ⟨_, rfl, _, rfl, by show 3 ≤ sizeLine; decide, fun rt nrt => ?_⟩⟩
                  have sl := same_upd (o := .tup [.int (i : Nat), .int 1, .ref g]) nlt
                  have sr := same_upd (o := .tup [.ref lt, .ref cc, .int (pr + (ch.map (addPr os)).sum)]) nrt
                  obtain ⟨nl1, nl2⟩ := nH H6 lt s06 hF6n nlt
                  obtain ⟨nr1, nr2⟩ := nH _ rt (s06.trans sl) (by rw [sl _ _ hF6]; exact fun z => nomatch z) nrt
                  have hF8 := sr _ _ (sl _ _ hF6)
                  refine ⟨F, _, _, rfl, rfl, hF8, szL' (by rw [List.length_map]; omega), _, _, _, _, rfl, sm_new (s06.trans (sl.trans sr)) nF, ((sb5.trans (.of s6)).trans (.of (sl.trans sr))).trans .upd, rs5 ++ [rt], ?_, ?_⟩
                  · rw [upd_same, List.map_append]
                    rfl
                  · rw [take_succ_at hch, List.map_append, ← List.append_assoc]
                    have ep : priceM os ⟨i, 1, ch⟩ = pr + (ch.map (addPr os)).sum := by unfold priceM; rw [show ((⟨i, 1, ch⟩ : Ln).p).toNat = i from Int.toNat_natCast i, g2]
                    have ec : contM os ⟨i, 1, ch⟩ = cs := by
                      unfold contM
                      rw [show contAt os ((i : Nat) : Int) = c from contAt_get g2]
                      show ch.foldl _ (c.map (1 * ·)) = cs
                      rw [map_one, ecs]
                    refine push H5 _ rs5 _ rt _ _ all5 (s6.trans (sl.trans sr)) ⟨lt, cc, cut_put nr1 (cut_put nr2 ?_), ⟨g, cut_put nl1 (cut_put nl2 (sr _ _ upd_same)), cut_put ngF (cut_put ngd ((s6.trans (sl.trans sr)) _ _ hg5))⟩, ?_⟩
                    · show upd _ rt _ rt = some (.tup [.ref lt, .ref cc, .int (priceM os ⟨i, 1, ch⟩)])
                      rw [upd_same, ep]
                    · show cutH F (cutH d _) cc = some (LI (contM os ⟨i, 1, ch⟩))
                      rw [ec]
                      exact cut_put ncF (cut_put ncd ((sl.trans sr) _ _ hcc))
            · obtain ⟨y5, y7, y8, y9, rfl, s5, sb5, rs5, hF5, all5⟩ := hp
              rw [List.length_map, lg, List.take_length, ← em] at all5
              exact ⟨_, _, _, _, _, rfl, s5, rs5, hF5, all5⟩
      · obtain ⟨y4, y5, y7, y8, y9, rfl, s3, rs3, hF3, all3⟩ := hI
        have hend : ∀ {z : List PR}, rowsAt os i = z → (List.range (i + 1)).flatMap (rowsAt os) = (List.range i).flatMap (rowsAt os) ++ z := fun {z} e => by
          rw [List.range_succ, List.flatMap_append, List.flatMap_singleton, e]
        cases o with
        | pack c pr =>
          obtain ⟨b, hv, _⟩ := ho
          refine ⟨_, rfl, v, _, _, _, rfl, rfl, SqT.of (s3 _ _ (cut_some hv).2), atI_nat (j := 0) rfl, rfl, false, rfl, ?_⟩
          exact ⟨_, _, _, _, _, _, _, _, rfl, s3, rs3, hF3, by rw [hend rfl]; exact all3⟩
        | add c pr kk =>
          obtain ⟨b, hv, _⟩ := ho
          refine ⟨_, rfl, v, _, _, _, rfl, rfl, SqT.of (s3 _ _ (cut_some hv).2), atI_nat (j := 0) rfl, rfl, false, rfl, ?_⟩
          refine ⟨_, _, _, _, _, _, _, _, rfl, s3, rs3, hF3, ?_⟩
          rw [hend (z := []) (by unfold rowsAt linesAtM; rw [g2]; rfl)]
          exact all3
        | many c ts =>
          obtain ⟨b, t', hv, hb, us, u1, u2, u3⟩ := ho
          obtain ⟨nbd, hb'⟩ := cut_some hb
          have hv' := (cut_some hv).2
          have u1' := (cut_some u1).2
          have gts : GoodT ts := gd.2 i _ g2
          have few := gts.few
          have prt : PriceT ts := fo.2.2
          rw [List.append_nil] at all3
          have em : rowsAt os i = (List.range 12).map fun k => prowM os ⟨i, 1 + (k : Nat), []⟩ := by
            unfold rowsAt linesAtM
            rw [g2, List.map_map]
            rfl
          refine ⟨_, rfl, v, _, _, _, rfl, rfl, SqT.of (s3 _ _ hv'), atI_nat (j := 0) rfl, rfl, true, rfl, ?_⟩
          refine ⟨1, 13, rfl, ⟨by decide, by decide, by decide, by decide⟩, for_range (lo := 1) (n := 12) (fun j σ H' => ∃ y5 y6 y7 y8 y9, σ = [some (.ref a), some (.ref F), some (.int (i : Nat)), some (.ref v), y4, y5, y6, y7, y8, y9, none, none, none] ∧ Same H H' ∧ ∃ rs : List Addr, H' F = some (.lst (rs.map V.ref)) ∧ Al (PRowAt (cutH F (cutH d H'))) rs ((List.range i).flatMap (rowsAt os) ++ (List.range j).map fun k => prowM os ⟨i, 1 + (k : Nat), []⟩)) ⟨_, _, _, _, _, rfl, s3, rs3, hF3, by rw [show ((List.range 0).map fun k => prowM os ⟨i, 1 + (k : Nat), []⟩) = [] from rfl, List.append_nil]; exact all3⟩ (fun j σ H4 hj hp => ?_) (fun σ H4 hp => ?_)⟩
          · obtain ⟨y5, y6, y7, y8, y9, rfl, s4, rs4, hF4, all4⟩ := hp
            have lr4 := all4.len
            rw [List.length_append, List.length_map, List.length_range] at lr4
            -- price
            refine ⟨_, rfl, v, _, _, _, rfl, rfl, SqT.of (s4 _ _ hv'), atI_nat (j := 2) rfl, t', rfl, ⟨_, SqL.of (s4 _ _ u1')⟩, fun B nB => lc_list (K := K) (xs := us.map V.ref) (fun l H' => Same H4 H' ∧ H' B = some (LI (pieceL (ts.take l) (1 + (j : Int)))) ∧ (pieceL (ts.take l) (1 + (j : Int))).length ≤ l) ⟨same_upd nB, upd_same, Nat.le_refl _⟩ (fun l H' _ hp => SqL.of (hp.1 _ _ (s4 _ _ u1'))) (fun l x H5 hx hp => ?_) (fun H5 hp => ?_)⟩
            · obtain ⟨s5, hB, hlen⟩ := hp
              rw [List.getElem?_map] at hx
              cases hu : us[l]? with
              | none => rw [hu] at hx; cases hx
              | some u =>
                rw [hu] at hx
                cases Option.some.inj hx
                have hl : l < ts.length := by
                  have := (List.getElem?_eq_some_iff.mp hu).1
                  omega
                have gt := List.getElem?_eq_getElem hl
                have hut := s5 _ _ (s4 _ _ (cut_some (u3 l u _ hu gt)).2)
                refine ⟨rfl, _, rfl, u, _, _, _, rfl, rfl, SqT.of hut, atI_nat (j := 0) rfl, _, rfl, _, _, rfl, rfl, _, rfl, ite2 (fun z => ?_) (fun z => ?_)⟩
                · have z2 := of_decide_eq_true z
                  refine ⟨_, rfl, u, _, _, _, rfl, rfl, SqT.of hut, atI_nat (j := 1) rfl, _, hB, szL' (by rw [List.length_map]; omega), sm_new s5 nB, ?_, ?_⟩
                  · rw [pieceL_take gt, if_pos z2]
                    exact at_app
                  · rw [pieceL_take gt, if_pos z2, List.length_append, List.length_singleton]
                    omega
                · have z2 : ¬ (ts[l]).1 ≤ 1 + (j : Int) := fun y => z (decide_eq_true y)
                  refine ⟨s5, ?_, ?_⟩
                  · rw [pieceL_take gt, if_neg z2]
                    exact hB
                  · rw [pieceL_take gt, if_neg z2]
                    omega
            · obtain ⟨s5, hB, hlen⟩ := hp
              rw [List.length_map, u2, List.take_length] at hB hlen
              have ne : pieceL ts (1 + (j : Int)) ≠ [] := by
                have pos := gts.pos
                have g0 := List.getElem?_eq_getElem (show 0 < ts.length by omega)
                have e1 := gts.one _ g0
                have hm : (ts[0]'(by omega)) ∈ ts.filter fun t => decide (t.1 ≤ 1 + (j : Int)) := List.mem_filter.mpr ⟨List.getElem_mem _, decide_eq_true (by omega)⟩
                intro z
                unfold pieceL at z
                rw [List.map_eq_nil_iff] at z
                rw [z] at hm
                cases hm
              have hpos : 0 < (pieceL ts (1 + (j : Int))).length := List.length_pos_iff.mpr ne
              have glast : (pieceL ts (1 + (j : Int)))[(pieceL ts (1 + (j : Int))).length - 1]? = some (pieceM ts (1 + (j : Int))) := by
                unfold pieceM
                rw [List.getLastD_eq_getLast?, List.getLast?_eq_getElem?]
                rw [List.getElem?_eq_getElem (by omega)]
                rfl
              have pbnd : 0 ≤ pieceM ts (1 + (j : Int)) ∧ pieceM ts (1 + (j : Int)) < 1000000000000 := by
                obtain ⟨t, ht, e⟩ := List.mem_map.mp (List.mem_of_getElem? glast)
                rw [← e]
                exact prt t (List.mem_filter.mp ht).1
              have hneg : atI ((pieceL ts (1 + (j : Int))).map V.int) (-1) = some (.int (pieceM ts (1 + (j : Int)))) := by
                have e : pieceL ts (1 + (j : Int)) = (pieceL ts (1 + (j : Int))).dropLast ++ [pieceM ts (1 + (j : Int))] := by
                  unfold pieceM
                  rw [List.getLastD_eq_getLast?, List.getLast?_eq_getLast ne]
                  exact (List.dropLast_concat_getLast ne).symm
                rw [e, List.map_append]
                exact atI_last _ _
              refine ⟨1, rfl, B, _, -1, _, rfl, rfl, SqL.of hB, hneg, ?_⟩
              have s05 := s4.trans s5
              have hF5 := s5 _ _ hF4
              have hF5n : H5 F ≠ none := by rw [hF5]; exact fun z => nomatch z
              -- append
              refine ⟨_, rfl, .inl ⟨rfl, _, SqL.of hF5⟩, _, rfl, _, rfl, Nat.zero_le _, fun el nel => ⟨by show 3 ≤ sizeLine; decide, fun lt nlt => ?_⟩⟩
              have se := same_upd (o := .lst []) nel
              have sl := same_upd (o := .tup [.int (i : Nat), .int (1 + (j : Int)), .ref el]) nlt
              obtain ⟨ne1, ne2⟩ := nH H5 el s05 hF5n nel
              obtain ⟨nl1, nl2⟩ := nH _ lt (s05.trans se) (by rw [se _ _ hF5]; exact fun z => nomatch z) nlt
              have s07 := s05.trans (se.trans sl)
              have hF7 := (se.trans sl) _ _ hF5
              have hel : upd (upd H5 el (.lst [])) lt (.tup [.int (i : Nat), .int (1 + (j : Int)), .ref el]) el = some (LI []) := sl _ _ upd_same
              have hlt : upd (upd H5 el (.lst [])) lt (.tup [.int (i : Nat), .int (1 + (j : Int)), .ref el]) lt = some (.tup [.int (i : Nat), .int (1 + (j : Int)), .ref el]) := upd_same
              have s57 := se.trans sl
              generalize upd (upd H5 el (.lst [])) lt (.tup [.int (i : Nat), .int (1 + (j : Int)), .ref el]) = H7 at s07 hF7 hel hlt s57 ⊢
              refine ⟨_, rfl, v, _, _, _, rfl, rfl, SqT.of (s07 _ _ hv'), atI_nat (j := 1) rfl, b, rfl, ⟨_, SqL.of (s07 _ _ hb')⟩, fun C nC => lc_list (K := K) (xs := c.map V.int) (fun l H' => Same H7 H' ∧ H' C = some (LI ((c.take l).map ((1 + (j : Int)) * ·)))) ⟨same_upd nC, upd_same⟩ (fun l H' _ hp => SqL.of (hp.1 _ _ (s07 _ _ hb'))) (fun l x H8 hx hp => ?_) (fun H8 hp => ?_)⟩
              · obtain ⟨s8, hC⟩ := hp
                obtain ⟨n, hn, rfl⟩ := of_get_ints hx
                have hl := (List.getElem?_eq_some_iff.mp hn).1
                have lc := fo.1
                refine ⟨rfl, _, rfl, _, rfl, _, _, rfl, rfl, .inl ⟨by omega, by omega⟩, _, hC, szL' (by rw [List.length_map, List.length_map, List.length_take]; omega), sm_new s8 nC, ?_⟩
                rw [take_succ_at hn, List.map_append]
                exact at_app
              · obtain ⟨s8, hC⟩ := hp
                rw [List.length_map, List.take_length] at hC
                obtain ⟨nc1, nc2⟩ := nH H7 C s07 (by rw [hF7]; exact fun z => nomatch z) nC
                refine ⟨_, rfl, _, rfl, _, _, rfl, rfl, .inl ⟨by omega, by omega⟩, by show 3 ≤ sizeLine; decide, fun rt nrt => ?_⟩
                have sr := same_upd (o := .tup [.ref lt, .ref C, .int ((1 + (j : Int)) * pieceM ts (1 + (j : Int)))]) nrt
                obtain ⟨nr1, nr2⟩ := nH H8 rt (s07.trans s8) (by rw [s8 _ _ hF7]; exact fun z => nomatch z) nrt
                have hF9 := sr _ _ (s8 _ _ hF7)
                refine ⟨F, _, _, rfl, rfl, hF9, szL' (by rw [List.length_map]; omega), _, _, _, _, _, rfl, sm_new (s07.trans (s8.trans sr)) nF, rs4 ++ [rt], ?_, ?_⟩
                · rw [upd_same, List.map_append]
                  rfl
                · rw [List.range_succ, List.map_append, ← List.append_assoc]
                  have ep : priceM os ⟨i, 1 + (j : Int), []⟩ = (1 + (j : Int)) * pieceM ts (1 + (j : Int)) := by unfold priceM; rw [show ((⟨i, 1 + (j : Int), []⟩ : Ln).p).toNat = i from Int.toNat_natCast i, g2]
                  have ec : contM os ⟨i, 1 + (j : Int), []⟩ = c.map ((1 + (j : Int)) * ·) := by
                    unfold contM
                    rw [show contAt os ((i : Nat) : Int) = c from contAt_get g2]
                    rfl
                  refine push H4 _ rs4 _ rt _ _ all4 ((s5.trans s57).trans (s8.trans sr)) ⟨lt, C, cut_put nr1 (cut_put nr2 ?_), ⟨el, cut_put nl1 (cut_put nl2 ((s8.trans sr) _ _ hlt)), cut_put ne1 (cut_put ne2 ((s8.trans sr) _ _ hel))⟩, ?_⟩
                  · show upd _ rt _ rt = some (.tup [.ref lt, .ref C, .int (priceM os ⟨i, 1 + (j : Int), []⟩)])
                    rw [upd_same, ep]
                  · show cutH F (cutH d _) C = some (LI (contM os ⟨i, 1 + (j : Int), []⟩))
                    rw [ec]
                    exact cut_put nc1 (cut_put nc2 (sr _ _ hC))
          · obtain ⟨y5, y6, y7, y8, y9, rfl, s4, rs4, hF4, all4⟩ := hp
            refine ⟨_, _, _, _, _, _, _, _, rfl, s4, rs4, hF4, ?_⟩
            rw [hend em]
            exact all4
    · obtain ⟨y2, y3, y4, y5, y6, y7, y8, y9, rfl, s1, rs, hF1, all⟩ := hp
      rw [List.length_map, h2, ← prows_flat] at all
      exact ⟨_, rfl, q H1 F s1 nF ⟨nFd, rs, hF1, all.imp fun r x h => h.ke (.of cut_le)⟩⟩
end
/-! ### how many things -/
theorem menuM {j : Nat} (h : j < 8) : ∃ v : Nat, ([V.int 1, V.int 2, V.int 2, V.int 3, V.int 2, V.int 3, V.int 1, V.int 4] : List V)[j]? = some (.int v) ∧ 1 ≤ v ∧ v ≤ 4 :=
  match j, h with
  | 0, _ => ⟨1, rfl, by decide, by decide⟩
  | 1, _ => ⟨2, rfl, by decide, by decide⟩
  | 2, _ => ⟨2, rfl, by decide, by decide⟩
  | 3, _ => ⟨3, rfl, by decide, by decide⟩
  | 4, _ => ⟨2, rfl, by decide, by decide⟩
  | 5, _ => ⟨3, rfl, by decide, by decide⟩
  | 6, _ => ⟨1, rfl, by decide, by decide⟩
  | 7, _ => ⟨4, rfl, by decide, by decide⟩
theorem LeW.snoc : ∀ {us ws : List Int} {x n : Int}, LeW us ws → 0 ≤ x → x ≤ n → LeW (us ++ [x]) (ws ++ [n])
  | [], [], _, _, _, h0, h1 => ⟨h0, h1, True.intro⟩
  | [], _ :: _, _, _, h, _, _ => h.elim
  | _ :: _, [], _, _, h, _, _ => h.elim
  | a :: r, b :: w, _, _, h, h0, h1 => ⟨h.1, h.2.1, LeW.snoc h.2.2 h0 h1⟩
/-! ### what stands of a heap while d and tables change -/
structure Fr (T : List Addr) (d : Addr) (Hb H : Hp) : Prop where
  ke : Ke Hb (cutH d H)
  dr : ∃ ds, H d = some (LI ds)
  tb : Tb T H
section
variable {T : List Addr} {d : Addr} {Hb H H' : Hp}
theorem Fr.ext (F : Fr T d Hb H) (e : Ext T H H') : Fr T d Hb H' := by
  obtain ⟨ds, hd⟩ := F.dr
  exact ⟨F.ke.trans e.ke.cut, ⟨ds, e.lst hd⟩, e.t1⟩
theorem Fr.same (F : Fr T d Hb H) (s : Same H H') : Fr T d Hb H' := F.ext (.same s F.tb)
theorem Fr.but (F : Fr T d Hb H) (s : SameBut d H H') (h : ∃ ds, H' d = some (LI ds)) : Fr T d Hb H' := by
  obtain ⟨ds, hd⟩ := F.dr
  exact ⟨F.ke.trans (.of (cut_same s)), h, tb_but s hd F.tb⟩
theorem Fr.all (F : Fr T d Hb H) : Ke Hb H := F.ke.trans (.of cut_le)
theorem Fr.lst (F : Fr T d Hb H) {p : Addr} {xs : List V} (h : Hb p = some (.lst xs)) : H p = some (.lst xs) := F.all.lst h
theorem Fr.tup (F : Fr T d Hb H) {p : Addr} {xs : List V} (h : Hb p = some (.tup xs)) : H p = some (.tup xs) := F.all.tup h
theorem Fr.ne (F : Fr T d Hb H) {p : Addr} {xs : List V} (h : Hb p = some (.lst xs)) : p ≠ d := (cut_some (F.ke.lst h)).1
theorem Fr.start {ds : List Int} (hd : H d = some (LI ds)) (hT : Tb T H) : Fr T d (cutH d H) H := ⟨.refl _, ⟨ds, hd⟩, hT⟩
/-- what is allotted later is apart from d -/
theorem Fr.apart (F : Fr T d Hb H) {p : Addr} (h : H p = none) : p ≠ d := fun z => by
  obtain ⟨ds, e⟩ := F.dr
  rw [z, e] at h
  cases h
end
/-! ### what lines have together -/
def SumIs (m : Nat) (cs : List Int) (q : List Rw) : Prop := cs.length = m ∧ ∀ i, i < m → hadM cs i = sumC q i
theorem had_tog {a b : List Int} {i : Nat} (ha : i < a.length) (hb : i < b.length) : hadM (togM a b) i = hadM a i + hadM b i := by
  have := togM_get (hadM_in ha) (hadM_in hb)
  have h2 := hadM_in (cs := togM a b) (i := i) (by rw [togM_len]; omega)
  exact Option.some.inj (h2.symm.trans this)
theorem SumIs.snoc {m : Nat} {cs : List Int} {q : List Rw} {r : Rw} (h : SumIs m cs q) (hr : r.1.length = m) : SumIs m (togM cs r.1) (q ++ [r]) := by
  refine ⟨by rw [togM_len, h.1, hr]; exact Nat.min_self m, fun i hi => ?_⟩
  rw [had_tog (by rw [h.1]; exact hi) (by rw [hr]; exact hi), h.2 i hi, sumC_app, show sumC [r] i = hadM r.1 i by show hadM r.1 i + 0 = _; omega]
theorem SumIs.app {m : Nat} {a b : List Int} {q q' : List Rw} (h : SumIs m a q) (h' : SumIs m b q') : SumIs m (togM a b) (q ++ q') := by
  refine ⟨by rw [togM_len, h.1, h'.1]; exact Nat.min_self m, fun i hi => ?_⟩
  rw [had_tog (by rw [h.1]; exact hi) (by rw [h'.1]; exact hi), h.2 i hi, h'.2 i hi, sumC_app]
theorem SumIs.cov {m : Nat} {cs w : List Int} {q : List Rw} (h : SumIs m cs q) (hw : ∀ (i : Nat) (n : Int), w[i]? = some n → i < m ∧ n ≤ hadM cs i) : CovM q w := fun i n hn => by
  obtain ⟨h1, h2⟩ := hw i n hn
  rw [← h.2 i h1]
  exact h2
/-! ### _law_bought, the law -/
abbrev s_law_bought : Stmt := topS 41
abbrev N_law_bought : List Str := ["_law_wares", "_law_draws_here", "_law_many", "_law_have", "_law_cost", "_law_k", "_law_line", "_law_content_here", "_law_price_here", "_law_thing"]
theorem sc_law_bought : FnScope N_law_bought ["_law_wares", "_law_draws_here", "_law_many"] (defScope s_law_bought) := ⟨rfl, rfl, rfl, by decide +kernel, rfl, by decide +kernel, by decide +kernel⟩

abbrev s_law : Stmt := topS 42
abbrev N_law : List Str := ["_law_script", "_law_draws_here", "_law_many", "_law_shop_here", "_law_wares", "_law_have", "_law_cost", "_law_more", "_law_more_cost", "_law_content_here", "_law_price_here", "_law_want", "_law_found", "_law_one"]
theorem sc_law : FnScope N_law ["_law_script"] (defScope s_law) := ⟨rfl, rfl, rfl, by decide +kernel, rfl, by decide +kernel, by decide +kernel⟩

theorem lesser_last {w : List Int} (h : ∀ x ∈ w, 0 ≤ x) : ∃ l, lesserF w = l ++ [w] := by
  induction w with
  | nil => exact ⟨[], rfl⟩
  | cons n w ih =>
    obtain ⟨l, hl⟩ := ih fun x hx => h x (List.mem_cons_of_mem _ hx)
    have hn := h n List.mem_cons_self
    have eu : upto n = (List.range n.toNat).map (fun (i : Nat) => (i : Int)) ++ [n] := by
      unfold upto
      rw [show (n + 1).toNat = n.toNat + 1 by omega, List.range_succ, List.map_append]
      congr 1
      show [((n.toNat : Nat) : Int)] = [n]
      rw [Int.toNat_of_nonneg hn]
    show ∃ l', (upto n).flatMap (fun a => (lesserF w).map (a :: ·)) = l' ++ [n :: w]
    rw [eu, List.flatMap_append, List.flatMap_singleton, hl, List.map_append]
    exact ⟨_, (List.append_assoc _ _ _).symm⟩
def sp_lbought (T : List Addr) : Sp := fun vs H Q _ => ∃ (W d : Addr) (m : Nat) (ds : List Int) (xs : List PR), vs = [.ref W, .ref d, .int m] ∧ H d = some (LI ds) ∧ WaresAt d H W xs ∧ (∀ x ∈ xs, x.2.1.length = m) ∧ 0 < xs.length ∧ m ≤ 1000 ∧
  ∀ H' (t h : Addr) (cs : List Int) (ys : List PR) (ds' : List Int), SameBut d H H' → H t = none → H h = none → H' d = some (LI ds') → H' t = some (.tup [.ref h, .int (costM (rwsM ys))]) → t ≠ d → H' h = some (LI cs) → h ≠ d → SumIs m cs (rwsM ys) → (∀ y ∈ ys, y ∈ xs) → Q (.ref t) H'
def sp_law (K : PySem.W.Frag) (t1 t2 : Addr) : Sp := fun vs H Q _ => ∃ (a : Addr) (ns : List Int), vs = [.ref a] ∧ SqL K H a (ns.map V.int) ∧ ns.length ≤ 63 ∧ GxR.TabG H t1 ∧ GxR.TabG H t2 ∧ ∀ H', Q (.bl true) H'
section
variable {P : Program} {w : World} {K : PySem.W.Frag} {mg : Str → Option Value} {base : Heap} {T : List Addr}
theorem ok_lbought {f f1 f2 : Addr} {fd fd1 fd2 : FuncData} {k : Nat} (M : Names mg) (D : Def K mg "_law_bought" s_law_bought ["_law_wares", "_law_draws_here", "_law_many"] f fd) (D_law_pop : Def K mg "_law_pop" s_law_pop ["_law_draws_here"] f1 fd1) (D_law_sum : Def K mg "_law_sum" s_law_sum ["_law_one", "_law_other"] f2 fd2) : FnOk P w K mg base CX0 (k + 2) f fd ["_law_wares", "_law_draws_here", "_law_many"] (sp_lbought T) := by
  have G_law_pop : FnOk P w K mg base CX0 (k + 1) f1 fd1 ["_law_draws_here"] sp_pop := ok_pop D_law_pop
  have G_law_sum : FnOk P w K mg base CX0 (k + 1) f2 fd2 ["_law_one", "_law_other"] (sp_sum K) := ok_sum M D_law_sum
  refine D.F.ok sc_law_bought (fun vs H Q E h => ?_) (fun cdv A outer s H vs Q E hr h => ?_)
  · obtain ⟨W, d, m, ds, xs, rfl, _⟩ := h
    rfl
  · obtain ⟨W, d, m, ds, xs, rfl, hd, ⟨nWd, as, hW, al⟩, hlen, hpos, hm, q⟩ := h
    refine ⟨_, (pss_cons (ps_setLc (i := 3) (own := [("_law_thing", 9)]) (by rfl) sc_law_bought.nd rfl rfl (sw_true rfl rfl rfl (by decide +kernel)) (pi_range1 (by rfl) M.range (pa_cons (pv 2) pa_nil)) (blkOk_by (own := [("_law_thing", 9)]) (N := N_law_bought) (sc := defScope s_law_bought) (by decide +kernel)) (fun _ _ _ _ _ => (pg_name (i := 9) sc_law_bought.nd rfl (Or.inl rfl))) (fun _ _ _ _ _ => pts_nil) (fun _ _ _ _ _ => pe_int))
  (pss_cons (ps_set (i := 4) sc_law_bought.nd rfl (Or.inl rfl) pe_int)
  (pss_cons (ps_for PassesOwn.never rfl (pi_range1 (by rfl) M.range (pa_cons (pe_op op_add pe_int (pe_op op_mod (pe_call G_law_pop hr (by rfl) D_law_pop.g D_law_pop.F.kp D_law_pop.b .nil pass0 (pa_cons (pv 1) pa_nil)) pe_int)) pa_nil)) (pg_name (i := 5) sc_law_bought.nd rfl (Or.inl rfl))
   (pss_cons (ps_asg (pe_ix ix_list (pv 0) (pe_op op_mod (pe_call G_law_pop hr (by rfl) D_law_pop.g D_law_pop.F.kp D_law_pop.b .nil pass0 (pa_cons (pv 1) pa_nil)) (pe_callB call_len_seq (by rfl) M.len (by decide +kernel) (pa_cons (pv 0) pa_nil))) (fun _ _ => rfl)) (pg_tup rfl (pgs_cons (pg_name (i := 6) sc_law_bought.nd rfl (Or.inl rfl)) (pgs_cons (pg_name (i := 7) sc_law_bought.nd rfl (Or.inl rfl)) (pgs_cons (pg_name (i := 8) sc_law_bought.nd rfl (Or.inl rfl)) pgs_nil)))))
  (pss_cons (ps_set (i := 3) sc_law_bought.nd rfl (Or.inl rfl) (pe_call G_law_sum hr (by rfl) D_law_sum.g D_law_sum.F.kp D_law_sum.b .nil pass0 (pa_cons (pv 3) (pa_cons (pv 7) pa_nil))))
  (pss_one (ps_set (i := 4) sc_law_bought.nd rfl (Or.inl rfl) (pe_op op_add (pv 4) (pv 8)))))))
  (pss_one (ps_ret (pe_tup (pa_cons (pv 3) (pa_cons (pv 4) pa_nil)))))))), ?_⟩
    have lal := al.len
    refine ⟨_, rfl, _, rfl, by omega, by omega, fun B nB => lc_range (lo := 0) (n := (m : Int).toNat) (fun i H' => Same H H' ∧ H' B = some (LI (List.replicate i 0))) ⟨same_upd nB, upd_same⟩ (fun i H1 hi hp => ?_) (fun H1 hp => ?_)⟩
    · obtain ⟨s1, hB⟩ := hp
      refine ⟨rfl, _, hB, szL' (by rw [List.length_map, List.length_replicate]; omega), sm_new s1 nB, ?_⟩
      rw [List.replicate_succ']
      exact at_app
    · obtain ⟨s1, hB⟩ := hp
      rw [Int.toNat_natCast] at hB
      have nBd : B ≠ d := (ne_of_none hd nB).symm
      refine ⟨_, rfl, d, ds, rfl, s1 _ _ hd, fun H2 s2 hd2 => ⟨_, _, rfl, rfl, (by show (0 : Int) < _; decide), _, _, rfl, rfl, _, rfl, by omega, by omega, for_range (n := (1 + ds.headD 0 % 3).toNat) (fun i σ H' => ∃ (h : Addr) (cs : List Int) (ys : List PR) (y5 y6 y7 y8 : Option V), σ = [some (.ref W), some (.ref d), some (.int m), some (.ref h), some (.int (costM (rwsM ys))), y5, y6, y7, y8, none] ∧ SameBut d H H' ∧ (∃ ds, H' d = some (LI ds)) ∧ H' h = some (LI cs) ∧ h ≠ d ∧ H h = none ∧ SumIs m cs (rwsM ys) ∧ ∀ y ∈ ys, y ∈ xs) ⟨B, _, [], none, none, none, none, rfl, (SameBut.of s1).trans s2, ⟨_, hd2⟩, s2 _ _ nBd hB, nBd, nB, ⟨List.length_replicate, fun i hi => ?_⟩, (fun y hy => nomatch hy)⟩ (fun i σ H3 hi hp => ?_) (fun σ H3 hp => ?_)⟩⟩
      · have : hadM (List.replicate m 0) i = 0 := by
          have g := hadM_in (cs := List.replicate m (0 : Int)) (i := i) (by rw [List.length_replicate]; exact hi)
          rw [List.getElem?_replicate, if_pos hi] at g
          exact (Option.some.inj g).symm
        rw [this]
        rfl
      · obtain ⟨h, cs, ys, y5, y6, y7, y8, rfl, s3, ⟨ds3, hd3⟩, hh, nhd, nhH, si, sub⟩ := hp
        obtain ⟨j, hj, ej⟩ := mod_at (i := ds3.headD 0) (n := (as.map V.ref).length) (by rw [List.length_map]; omega)
        rw [List.length_map] at hj
        have gj : (as.map V.ref)[j]? = some (.ref as[j]) := by rw [List.getElem?_map, List.getElem?_eq_getElem hj]; rfl
        obtain ⟨x, hx, lx, cx, hr1, hl1, hc1⟩ := al.get (List.getElem?_eq_getElem hj)
        refine ⟨_, rfl, _, rfl, d, ds3, rfl, hd3, fun H4 s4 hd4 => ?_⟩
        have s34 := s3.trans s4
        have hW4 := s34 _ _ nWd hW
        obtain ⟨nr, hr1'⟩ := cut_some hr1
        obtain ⟨nc, hc1'⟩ := cut_some hc1
        refine ⟨_, rfl, W, _, rfl, .inl (SqL.of hW4), _, _, rfl, rfl, (by rw [List.length_map]; omega), W, _, _, _, rfl, rfl, SqL.of hW4, at_of ej gj, ?_⟩
        refine ⟨as[j], _, rfl, SqT.of (s34 _ _ nr hr1'), rfl, _, _, rfl, _, _, rfl, _, _, rfl, rfl, ?_⟩
        have xm : x ∈ xs := List.mem_of_getElem? hx
        refine ⟨_, rfl, _, rfl, h, cx, cs, x.2.1, rfl, s4 _ _ nhd hh, s34 _ _ nc hc1', by rw [si.1, hlen x xm], by rw [si.1]; exact hm, fun H5 q5 s5 nq5 hq5 => ?_⟩
        refine ⟨_, rfl, _, rfl, _, _, rfl, rfl, ?_⟩
        have hd4n : H4 d ≠ none := by rw [hd4]; exact fun z => nomatch z
        refine ⟨q5, _, ys ++ [x], some (.int (0 + (i : Nat))), some (.ref lx), some (.ref cx), some (.int x.2.2), ?_, s34.trans (.of s5), ⟨_, s5 _ _ hd4⟩, hq5, (ne_of_none hd4 nq5).symm, s34.free nq5 hd4n, ?_, fun y hy => ?_⟩
        · rw [show rwsM (ys ++ [x]) = rwsM ys ++ [x.2] from List.map_append, costM_app, show costM [x.2] = x.2.2 by show x.2.2 + 0 = _; omega]
          rfl
        · rw [show rwsM (ys ++ [x]) = rwsM ys ++ [x.2] from List.map_append]
          exact si.snoc (hlen x xm)
        · rcases List.mem_append.mp hy with z | z
          · exact sub y z
          · rw [List.mem_singleton.mp z]
            exact xm
      · obtain ⟨h, cs, ys, y5, y6, y7, y8, rfl, s3, ⟨ds3, hd3⟩, hh, nhd, nhH, si, sub⟩ := hp
        refine ⟨_, rfl, _, rfl, by show 2 ≤ sizeLine; decide, fun t nt => ?_⟩
        have st := same_upd (o := .tup [.ref h, .int (costM (rwsM ys))]) nt
        have hd3n : H3 d ≠ none := by rw [hd3]; exact fun z => nomatch z
        exact q _ t h cs ys ds3 (s3.trans (.of st)) (s3.free nt hd3n) nhH (st _ _ hd3) upd_same (ne_of_none hd3 nt).symm (st _ _ hh) nhd si sub
theorem ok_law {f f_names_pack f_good_tiers f_can_stand f_look f_adds_to f_choices f_lines_at f_lines f_together f_content_of f_piece_price f_price_of f_priced_lines f_had f_rest f_lesser f_best_step f_all_steps f_cheapest f_least f_cases f_law_mix f_law_draws f_law_pop f_law_cut f_law_content f_law_price f_law_tiers f_law_shop f_law_groups f_law_sum f_law_lines f_law_bought c1 t1 c2 t2 : Addr} {fd fd_names_pack fd_good_tiers fd_can_stand fd_look fd_adds_to fd_choices fd_lines_at fd_lines fd_together fd_content_of fd_piece_price fd_price_of fd_priced_lines fd_had fd_rest fd_lesser fd_best_step fd_all_steps fd_cheapest fd_least fd_cases fd_law_mix fd_law_draws fd_law_pop fd_law_cut fd_law_content fd_law_price fd_law_tiers fd_law_shop fd_law_groups fd_law_sum fd_law_lines fd_law_bought : FuncData} (M : Names mg) (D : Def K mg "law" s_law ["_law_script"] f fd)
    (D_names_pack : Def K mg "names_pack" s_names_pack ["shop", "at"] f_names_pack fd_names_pack)
    (D_good_tiers : Def K mg "good_tiers" s_good_tiers ["tiers"] f_good_tiers fd_good_tiers)
    (D_can_stand : Def K mg "can_stand" s_can_stand ["shop", "at"] f_can_stand fd_can_stand)
    (D_look : Def K mg "look" s_look ["shop"] f_look fd_look)
    (D_adds_to : Def K mg "adds_to" s_adds_to ["shop", "place"] f_adds_to fd_adds_to)
    (D_choices : Def K mg "choices" s_choices ["places"] f_choices fd_choices)
    (D_lines_at : Def K mg "lines_at" s_lines_at ["shop", "place"] f_lines_at fd_lines_at)
    (D_lines : Def K mg "lines" s_lines ["shop"] f_lines fd_lines)
    (D_together : Def K mg "together" s_together ["content", "other"] f_together fd_together)
    (D_content_of : Def K mg "content_of" s_content_of ["shop", "line"] f_content_of fd_content_of)
    (D_piece_price : Def K mg "piece_price" s_piece_price ["tiers", "count"] f_piece_price fd_piece_price)
    (D_price_of : Def K mg "price_of" s_price_of ["shop", "line"] f_price_of fd_price_of)
    (D_priced_lines : Def K mg "priced_lines" s_priced_lines ["shop"] f_priced_lines fd_priced_lines)
    (D_had : Def K mg "had" s_had ["content", "thing"] f_had fd_had)
    (D_rest : Def K mg "rest" s_rest ["want", "content"] f_rest fd_rest)
    (D_lesser : Def K mg "lesser" s_lesser ["want"] f_lesser fd_lesser)
    (D_best_step : Def K mg "best_step" s_best_step ["less", "priced", "steps"] f_best_step fd_best_step)
    (D_all_steps : Def K mg "all_steps" s_all_steps ["priced", "want"] f_all_steps fd_all_steps)
    (D_cheapest : Def K mg "cheapest" s_cheapest ["priced", "want"] f_cheapest fd_cheapest)
    (D_least : Def K mg "least" s_least ["shop", "want"] f_least fd_least)
    (D_cases : Def K mg "cases" s_cases ["shop", "want"] f_cases fd_cases)
    (D_law_mix : Def K mg "_law_mix" s_law_mix ["_law_cell", "_law_turn"] f_law_mix fd_law_mix)
    (D_law_draws : Def K mg "_law_draws" s_law_draws ["_law_script", "_law_turn", "_law_many"] f_law_draws fd_law_draws)
    (D_law_pop : Def K mg "_law_pop" s_law_pop ["_law_draws_here"] f_law_pop fd_law_pop)
    (D_law_cut : Def K mg "_law_cut" s_law_cut ["_law_row"] f_law_cut fd_law_cut)
    (D_law_content : Def K mg "_law_content" s_law_content ["_law_draws_here", "_law_many", "_law_most"] f_law_content fd_law_content)
    (D_law_price : Def K mg "_law_price" s_law_price ["_law_draws_here"] f_law_price fd_law_price)
    (D_law_tiers : Def K mg "_law_tiers" s_law_tiers ["_law_draws_here"] f_law_tiers fd_law_tiers)
    (D_law_shop : Def K mg "_law_shop" s_law_shop ["_law_draws_here", "_law_many", "_law_most"] f_law_shop fd_law_shop)
    (D_law_groups : Def K mg "_law_groups" s_law_groups ["_law_places"] f_law_groups fd_law_groups)
    (D_law_sum : Def K mg "_law_sum" s_law_sum ["_law_one", "_law_other"] f_law_sum fd_law_sum)
    (D_law_lines : Def K mg "_law_lines" s_law_lines ["_law_shop_here"] f_law_lines fd_law_lines)
    (D_law_bought : Def K mg "_law_bought" s_law_bought ["_law_wares", "_law_draws_here", "_law_many"] f_law_bought fd_law_bought)
    (hc1 : fd_good_tiers.code = .ref c1) (TB1 : GxR.TabB base mg c1 t1) (hc2 : fd_price_of.code = .ref c2) (TB2 : GxR.TabB base mg c2 t2) :
    FnOk P w K mg base CX0 8 f fd ["_law_script"] (sp_law K t1 t2) := by
  have m1 : t1 ∈ [t1, t2] := List.mem_cons_self
  have m2 : t2 ∈ [t1, t2] := List.mem_cons_of_mem _ List.mem_cons_self
  have G_priced : FnOk P w K mg base CX0 6 f_priced_lines fd_priced_lines ["shop"] (sp_priced_lines [t1, t2]) := ok_priced_lines M D_priced_lines D_lines D_look D_can_stand D_names_pack D_good_tiers hc1 TB1 m1 D_lines_at D_adds_to D_choices D_content_of D_together D_price_of hc2 TB2 m2 D_piece_price
  have G_cheapest : FnOk P w K mg base CX0 6 f_cheapest fd_cheapest ["priced", "want"] sp_cheapest := ok_cheapest M D_cheapest D_all_steps D_best_step D_rest D_had D_lesser
  have G_least : FnOk P w K mg base CX0 7 f_least fd_least ["shop", "want"] (sp_least [t1, t2]) := ok_least M D_least D_priced_lines D_cheapest G_priced G_cheapest
  have G_cases : FnOk P w K mg base CX0 7 f_cases fd_cases ["shop", "want"] (sp_cases [t1, t2]) := ok_cases M D_cases D_priced_lines D_all_steps G_priced (ok_all_steps M D_all_steps D_best_step D_rest D_had D_lesser)
  have G_law_pop : FnOk P w K mg base CX0 7 f_law_pop fd_law_pop ["_law_draws_here"] sp_pop := ok_pop D_law_pop
  have G_law_cut : FnOk P w K mg base CX0 7 f_law_cut fd_law_cut ["_law_row"] sp_cut := ok_cut M D_law_cut
  have G_law_content : FnOk P w K mg base CX0 7 f_law_content fd_law_content ["_law_draws_here", "_law_many", "_law_most"] sp_content := ok_content M D_law_content D_law_pop D_law_cut
  have G_law_price : FnOk P w K mg base CX0 7 f_law_price fd_law_price ["_law_draws_here"] sp_price := ok_price D_law_price D_law_pop
  have G_law_draws : FnOk P w K mg base CX0 7 f_law_draws fd_law_draws ["_law_script", "_law_turn", "_law_many"] (sp_draws K) := ok_draws M D_law_draws D_law_mix
  have G_law_shop : FnOk P w K mg base CX0 7 f_law_shop fd_law_shop ["_law_draws_here", "_law_many", "_law_most"] sp_shop := ok_shop M D_law_shop D_law_content D_law_price D_law_tiers D_law_cut D_law_pop
  have G_law_sum : FnOk P w K mg base CX0 7 f_law_sum fd_law_sum ["_law_one", "_law_other"] (sp_sum K) := ok_sum M D_law_sum
  have G_law_lines : FnOk P w K mg base CX0 7 f_law_lines fd_law_lines ["_law_shop_here"] sp_wares := ok_wares M D_law_lines D_law_groups D_law_sum
  have G_law_bought : FnOk P w K mg base CX0 7 f_law_bought fd_law_bought ["_law_wares", "_law_draws_here", "_law_many"] (sp_lbought [t1, t2]) := ok_lbought M D_law_bought D_law_pop D_law_sum
  refine D.F.ok sc_law (fun vs H Q E h => ?_) (fun cdv A outer s H vs Q E hr h => ?_)
  · obtain ⟨a, ns, rfl, _⟩ := h
    rfl
  · obtain ⟨a, ns, rfl, hS0, hlen, hT1, hT2, q⟩ := h
    have hT : Tb [t1, t2] H := fun t ht => by
      rcases List.mem_cons.mp ht with rfl | ht
      · exact hT1
      · rw [List.mem_singleton.mp ht]
        exact hT2
    refine ⟨_, (pss_cons (ps_set (i := 1) sc_law.nd rfl (Or.inr rfl) (pe_call G_law_draws hr (by rfl) D_law_draws.g D_law_draws.F.kp D_law_draws.b .nil pass0 (pa_cons (pv 0) (pa_cons pe_int (pa_cons pe_int pa_nil)))))
  (pss_cons (ps_set (i := 2) sc_law.nd rfl (Or.inl rfl) (pe_ix ix_list (pe_lst (pa_cons pe_int (pa_cons pe_int (pa_cons pe_int (pa_cons pe_int (pa_cons pe_int (pa_cons pe_int (pa_cons pe_int (pa_cons pe_int pa_nil))))))))) (pe_op op_mod (pe_call G_law_pop hr (by rfl) D_law_pop.g D_law_pop.F.kp D_law_pop.b .nil pass0 (pa_cons (pv 1) pa_nil)) pe_int) (fun _ _ => rfl)))
  (pss_cons (ps_set (i := 3) sc_law.nd rfl (Or.inl rfl) (pe_op op_cat (pe_call G_law_shop hr (by rfl) D_law_shop.g D_law_shop.F.kp D_law_shop.b .nil pass0 (pa_cons (pv 1) (pa_cons (pv 2) (pa_cons pe_int pa_nil)))) (pe_lst (pa_cons (pe_tup (pa_cons pe_str (pa_cons (pe_call G_law_content hr (by rfl) D_law_content.g D_law_content.F.kp D_law_content.b .nil pass0 (pa_cons (pv 1) (pa_cons (pv 2) (pa_cons pe_int pa_nil)))) (pa_cons (pe_call G_law_price hr (by rfl) D_law_price.g D_law_price.F.kp D_law_price.b .nil pass0 (pa_cons (pv 1) pa_nil)) pa_nil)))) pa_nil))))
  (pss_cons (ps_set (i := 4) sc_law.nd rfl (Or.inl rfl) (pe_call G_law_lines hr (by rfl) D_law_lines.g D_law_lines.F.kp D_law_lines.b .nil pass0 (pa_cons (pv 3) pa_nil)))
  (pss_cons (ps_asg (pe_call G_law_bought hr (by rfl) D_law_bought.g D_law_bought.F.kp D_law_bought.b .nil pass0 (pa_cons (pv 4) (pa_cons (pv 1) (pa_cons (pv 2) pa_nil)))) (pg_tup rfl (pgs_cons (pg_name (i := 5) sc_law.nd rfl (Or.inl rfl)) (pgs_cons (pg_name (i := 6) sc_law.nd rfl (Or.inl rfl)) pgs_nil))))
  (pss_cons (ps_asg (pe_call G_law_bought hr (by rfl) D_law_bought.g D_law_bought.F.kp D_law_bought.b .nil pass0 (pa_cons (pv 4) (pa_cons (pv 1) (pa_cons (pv 2) pa_nil)))) (pg_tup rfl (pgs_cons (pg_name (i := 7) sc_law.nd rfl (Or.inl rfl)) (pgs_cons (pg_name (i := 8) sc_law.nd rfl (Or.inl rfl)) pgs_nil))))
  (pss_cons (ps_for PassesOwn.never rfl (pi_list (pe_lst (pa_cons (pe_tup (pa_cons (pv 5) (pa_cons (pv 6) pa_nil))) (pa_cons (pe_tup (pa_cons (pe_call G_law_sum hr (by rfl) D_law_sum.g D_law_sum.F.kp D_law_sum.b .nil pass0 (pa_cons (pv 5) (pa_cons (pv 7) pa_nil))) (pa_cons (pe_op op_add (pv 6) (pv 8)) pa_nil))) pa_nil)))) (pg_tup rfl (pgs_cons (pg_name (i := 9) sc_law.nd rfl (Or.inl rfl)) (pgs_cons (pg_name (i := 10) sc_law.nd rfl (Or.inl rfl)) pgs_nil)))
   (pss_cons (ps_set (i := 11) sc_law.nd rfl (Or.inl rfl) (pe_call G_law_cut hr (by rfl) D_law_cut.g D_law_cut.F.kp D_law_cut.b .nil pass0 (pa_cons (pe_lc (own := [("_law_one", 13)]) (by rfl) sc_law.nd (pi_list (pv 9)) (blkOk_by (own := [("_law_one", 13)]) (N := N_law) (sc := defScope s_law) (by decide +kernel)) (fun _ _ _ _ _ => (pg_name (i := 13) sc_law.nd rfl (Or.inl rfl))) (fun _ _ _ _ _ => pts_nil) (fun _ _ _ _ _ => (pe_callB (call_min2 rfl) (by rfl) M.min (by decide +kernel) (pa_cons (pv 13) (pa_cons pe_int pa_nil))))) pa_nil)))
  (pss_cutI (ps_if (pt_cmpR op_eq (pe_op op_mod (pe_call G_law_pop hr (by rfl) D_law_pop.g D_law_pop.F.kp D_law_pop.b .nil pass0 (pa_cons (pv 1) pa_nil)) pe_int) pe_int (nomark _))
   (pss_one (ps_setLc (i := 11) (own := [("_law_one", 13)]) (by rfl) sc_law.nd rfl rfl (sw_true rfl rfl rfl (by decide +kernel)) (pi_list (pv 11)) (blkOk_by (own := [("_law_one", 13)]) (N := N_law) (sc := defScope s_law) (by decide +kernel)) (fun _ _ _ _ _ => (pg_name (i := 13) sc_law.nd rfl (Or.inl rfl))) (fun _ _ _ _ _ => pts_nil) (fun _ _ _ _ _ => (pe_op op_sub (pv 13) (pe_op op_mod (pe_call G_law_pop hr (by rfl) D_law_pop.g D_law_pop.F.kp D_law_pop.b .nil pass0 (pa_cons (pv 1) pa_nil)) (pe_op op_add (pv 13) pe_int))))))
   pss_nil)
  (pss_cons (ps_set (i := 12) sc_law.nd rfl (Or.inl rfl) (pe_call G_least hr (by rfl) D_least.g D_least.F.kp D_least.b .nil pass0 (pa_cons (pv 3) (pa_cons (pv 11) pa_nil))))
  (pss_one (ps_if (PW.pt (pw_or (pt_cmpR op_isN (pv 12) pe_non (nomark _)) (pw_or (pt_cmpR op_gt (pe_ix ix_tup (pv 12) pe_int (fun _ _ => rfl)) (pv 10) (nomark _)) (pw_or1 (pt_cmpR op_ne (pe_ix ix_tup (pe_ix ix_list (pe_call G_cases hr (by rfl) D_cases.g D_cases.F.kp D_cases.b .nil pass0 (pa_cons (pv 3) (pa_cons (pv 11) pa_nil))) (pe_un un_neg pe_int) (fun _ _ => rfl)) pe_int (fun _ _ => rfl)) (pe_ix ix_tup (pv 12) pe_int (fun _ _ => rfl)) (nomark _))))))
   (pss_one (ps_ret pe_bl))
   pss_nil))))))
  (pss_one (ps_ret pe_bl))))))))), ?_⟩
    refine ⟨_, rfl, a, ns, 1, 130, rfl, hS0, by omega, by omega, by omega, fun H1 d ds s1 nd hd => ?_⟩
    refine ⟨by show 8 ≤ sizeLine; decide, fun e ne => ?_⟩
    have se := same_upd (o := .lst [.int 1, .int 2, .int 2, .int 3, .int 2, .int 3, .int 1, .int 4]) ne
    have he : upd H1 e (.lst [.int 1, .int 2, .int 2, .int 3, .int 2, .int 3, .int 1, .int 4]) e = some (.lst [.int 1, .int 2, .int 2, .int 3, .int 2, .int 3, .int 1, .int 4]) := upd_same
    have hd2 := se _ _ hd
    have ned : e ≠ d := (ne_of_none hd ne).symm
    generalize upd H1 e (.lst [.int 1, .int 2, .int 2, .int 3, .int 2, .int 3, .int 1, .int 4]) = H2 at se he hd2 ⊢
    have hT2' := tb_same (s1.trans se) hT
    refine ⟨_, rfl, d, ds, rfl, hd2, fun H3 s3 hd3 => ?_⟩
    obtain ⟨j, hj, ej⟩ := mod_at (i := ds.headD 0) (n := 8) (by decide)
    obtain ⟨m, hm, hm1, hm4⟩ := menuM hj
    refine ⟨_, _, rfl, rfl, (by show (0 : Int) < _; decide), e, _, _, _, rfl, rfl, SqL.of (s3 _ _ ned he), at_of ej hm, ?_⟩
    have hT3 := tb_but s3 hd2 hT2'
    -- shop
    refine ⟨_, rfl, _, rfl, d, _, m, 6, rfl, hd3, hm1, hm4, by decide, fun H4 S0 os ns4 s4 nS0 hsh gd ft hl6 hd4 => ?_⟩
    have F4 : Fr [t1, t2] d (cutH d H4) H4 := .start hd4 (tb_but s4 hd3 hT3)
    refine ⟨_, rfl, _, rfl, d, _, m, 3, rfl, hd4, hm1, hm4, by decide, by decide, fun H5 c cs ns5 s5 nc ncd hc hd5 hlc smc => ?_⟩
    refine ⟨_, rfl, d, _, rfl, hd5, fun H6 ns6 pr s6 hd6 p0 p1 => ⟨by show 3 ≤ sizeLine; decide, fun v nv => ⟨by show 1 ≤ sizeLine; decide, fun l nl => ?_⟩⟩⟩
    have F6 := F4.but (s5.trans s6) ⟨_, hd6⟩
    have sv := same_upd (o := .tup [.str "pack", .ref c, .int pr]) nv
    have sl := same_upd (o := .lst [.ref v]) nl
    obtain ⟨vs, hSl, al⟩ := hsh.al
    have lal := al.len
    have F7 := F6.same (sv.trans sl)
    refine ⟨S0, l, _, _, rfl, rfl, F7.lst hSl, upd_same, szL (by rw [List.length_map]; show vs.length + 1 ≤ _; omega), fun S nS => ?_⟩
    have sS := same_upd (o := .lst (vs.map V.ref ++ [.ref v])) nS
    have F8 := F7.same sS
    have nSd := F7.apart nS
    have nvd := F6.apart nv
    have hv8 : cutH d (upd (upd (upd H6 v (.tup [.str "pack", .ref c, .int pr])) l (.lst [.ref v])) S (.lst (vs.map V.ref ++ [.ref v]))) v = some (.tup [.str "pack", .ref c, .int pr]) := cut_put nvd ((sl.trans sS) _ _ upd_same)
    have hc8 : cutH d (upd (upd (upd H6 v (.tup [.str "pack", .ref c, .int pr])) l (.lst [.ref v])) S (.lst (vs.map V.ref ++ [.ref v]))) c = some (LI cs) := cut_put ncd (((sv.trans sl).trans sS) _ _ (s6 _ _ ncd hc))
    have hS8 : cutH d (upd (upd (upd H6 v (.tup [.str "pack", .ref c, .int pr])) l (.lst [.ref v])) S (.lst (vs.map V.ref ++ [.ref v]))) S = some (.lst ((vs ++ [v]).map V.ref)) := cut_put nSd (by rw [upd_same, List.map_append]; rfl)
    generalize (upd (upd (upd H6 v (.tup [.str "pack", .ref c, .int pr])) l (.lst [.ref v])) S (.lst (vs.map V.ref ++ [.ref v]))) = H8 at sS F8 hv8 hc8 hS8 ⊢
    have sh8 : ShopAt (cutH d H8) S (os ++ [.pack cs pr]) := ShopAt.of_al hS8 (Al.app (al.imp fun a x h => h.ke F8.ke) (.one ⟨c, hv8, hc8⟩))
    have gd' : Good (os ++ [.pack cs pr]) := gd.push (by omega) True.intro
    have ft' : FitS m (os ++ [.pack cs pr]) := ft.push ⟨hlc, smc, p0, p1⟩
    have lne : 0 < (prowsM (os ++ [.pack cs pr])).length := by
      have hmem : (⟨(os.length : Nat), 1, []⟩ : Ln) ∈ linesM (os ++ [.pack cs pr]) := by
        refine List.mem_flatMap.mpr ⟨os.length, List.mem_range.mpr (by rw [List.length_append]; exact Nat.lt_succ_self _), ?_⟩
        unfold linesAtM
        rw [List.getElem?_append_right (Nat.le_refl _), Nat.sub_self]
        refine List.mem_map.mpr ⟨[], ?_, rfl⟩
        rw [choices_head]
        exact List.mem_cons_self
      unfold prowsM
      rw [List.length_map]
      exact List.length_pos_of_mem hmem
    generalize os ++ [.pack cs pr] = os' at sh8 gd' ft' lne
    have fit := ft'.fit hm4
    have nn := rws_nn gd' ft'
    have clen : ∀ x ∈ prowsM os', x.2.1.length = m := fun x hx => by
      obtain ⟨l, hl, rfl⟩ := List.mem_map.mp hx
      exact (cont_v0 ft' (lines_ok gd' hl)).1
    have cpos : ∀ x ∈ prowsM os', ∀ y ∈ x.2.1, 0 ≤ y := fun x hx => by
      obtain ⟨l, hl, rfl⟩ := List.mem_map.mp hx
      exact (cont_v0 ft' (lines_ok gd' hl)).2
    clear F4 F6 F7 hd4 hd5 hd6 hsh hSl al
    obtain ⟨ds8, hd8⟩ := F8.dr
    have F8 : Fr [t1, t2] d (cutH d H8) H8 := .start hd8 F8.tb
    -- wares
    refine ⟨_, rfl, S, d, os', _, m, rfl, hd8, sh8, gd', ft', by omega, fun H9 W s9 nW hW9 => ?_⟩
    have F9 := F8.same s9
    -- bought
    refine ⟨_, rfl, _, rfl, _, rfl, W, d, m, ds8, prowsM os', rfl, s9 _ _ hd8, hW9, clen, lne, by omega, fun H10 tA hA csA ysA dsA s10 ntA nhA hdA htA ntAd hhA nhAd siA subA => ?_⟩
    refine ⟨tA, _, rfl, SqT.of htA, rfl, _, _, rfl, _, _, rfl, rfl, ?_⟩
    have hW10 : WaresAt d H10 W (prowsM os') := by
      obtain ⟨n1, as, h1, h2⟩ := hW9
      exact ⟨n1, as, s10 _ _ n1 h1, h2.imp fun r x h => h.ke (.of (cut_same s10))⟩
    refine ⟨_, rfl, _, rfl, _, rfl, W, d, m, dsA, prowsM os', rfl, hdA, hW10, clen, lne, by omega, fun H11 tB hB csB ysB dsB s11 ntB nhB hdB htB ntBd hhB nhBd siB subB => ?_⟩
    refine ⟨tB, _, rfl, SqT.of htB, rfl, _, _, rfl, _, _, rfl, rfl, ?_⟩
    have F11 := (F9.but s10 ⟨_, hdA⟩).but s11 ⟨_, hdB⟩
    have hhA11 := s11 _ _ nhAd hhA
    -- the two cases
    refine ⟨_, rfl, _, rfl, by show 2 ≤ sizeLine; decide, fun u1 nu1 => ?_⟩
    have su1 := same_upd (o := .tup [.ref hA, .int (costM (rwsM ysA))]) nu1
    refine ⟨_, rfl, _, rfl, hA, hB, csA, csB, rfl, su1 _ _ hhA11, su1 _ _ hhB, by rw [siA.1, siB.1], by rw [siA.1]; omega, fun H12 hC s12 nhC hhC => ?_⟩
    refine ⟨_, rfl, _, rfl, _, _, rfl, rfl, by show 2 ≤ sizeLine; decide, fun u2 nu2 => ⟨by show 2 ≤ sizeLine; decide, fun L nL => ?_⟩⟩
    have su2 := same_upd (o := .tup [.ref hC, .int (costM (rwsM ysA) + costM (rwsM ysB))]) nu2
    have sL := same_upd (o := .lst [.ref u1, .ref u2]) nL
    have F12 := (F11.same su1).same s12
    have F13 := F12.same (su2.trans sL)
    have nu1d := F11.apart nu1
    have nu2d := F12.apart nu2
    have nLd := (F12.same su2).apart nL
    have nhCd := (F11.same su1).apart nhC
    have s113 := (su1.trans s12).trans (su2.trans sL)
    have hu1 : cutH d (upd (upd H12 u2 (.tup [.ref hC, .int (costM (rwsM ysA) + costM (rwsM ysB))])) L (.lst [.ref u1, .ref u2])) u1 = some (.tup [.ref hA, .int (costM (rwsM ysA))]) := cut_put nu1d ((s12.trans (su2.trans sL)) _ _ upd_same)
    have hu2 : cutH d (upd (upd H12 u2 (.tup [.ref hC, .int (costM (rwsM ysA) + costM (rwsM ysB))])) L (.lst [.ref u1, .ref u2])) u2 = some (.tup [.ref hC, .int (costM (rwsM ysA) + costM (rwsM ysB))]) := cut_put nu2d (sL _ _ upd_same)
    have hL : cutH d (upd (upd H12 u2 (.tup [.ref hC, .int (costM (rwsM ysA) + costM (rwsM ysB))])) L (.lst [.ref u1, .ref u2])) L = some (.lst [.ref u1, .ref u2]) := cut_put nLd upd_same
    have hhA13 : cutH d (upd (upd H12 u2 (.tup [.ref hC, .int (costM (rwsM ysA) + costM (rwsM ysB))])) L (.lst [.ref u1, .ref u2])) hA = some (LI csA) := cut_put nhAd (s113 _ _ hhA11)
    have hhC13 : cutH d (upd (upd H12 u2 (.tup [.ref hC, .int (costM (rwsM ysA) + costM (rwsM ysB))])) L (.lst [.ref u1, .ref u2])) hC = some (LI (togM csA csB)) := cut_put nhCd ((su2.trans sL) _ _ hhC)
    have sh13 := sh8.ke F13.ke
    obtain ⟨ds13, hd13⟩ := F13.dr
    have F13 : Fr [t1, t2] d _ _ := .start hd13 F13.tb
    generalize (upd (upd H12 u2 (.tup [.ref hC, .int (costM (rwsM ysA) + costM (rwsM ysB))])) L (.lst [.ref u1, .ref u2])) = H13 at hu1 hu2 hL hhA13 hhC13 sh13 hd13 F13 ⊢
    clear F8 F9 F11 F12 hd8 hd13
    have rowsAll : ∀ i, i < 2 → ∃ (u h : Addr) (cs : List Int) (qs : List Rw), ([V.ref u1, V.ref u2] : List V)[i]? = some (.ref u) ∧ cutH d H13 u = some (.tup [.ref h, .int (costM qs)]) ∧ cutH d H13 h = some (LI cs) ∧ SumIs m cs qs ∧ (SubM qs (shopRws os')) := by
      have subM : ∀ {ys : List PR}, (∀ y ∈ ys, y ∈ prowsM os') → SubM (rwsM ys) (shopRws os') := fun {ys} hs r hr => by
        obtain ⟨y, hy, rfl⟩ := List.mem_map.mp hr
        exact List.mem_map.mpr ⟨y, hs y hy, rfl⟩
      intro i hi
      match i, hi with
      | 0, _ => exact ⟨u1, hA, csA, rwsM ysA, rfl, hu1, hhA13, siA, subM subA⟩
      | 1, _ => exact ⟨u2, hC, togM csA csB, rwsM ysA ++ rwsM ysB, rfl, by rw [costM_app]; exact hu2, hhC13, siA.app siB, fun r hr => (List.mem_append.mp hr).elim (subM subA r) (subM subB r)⟩
    refine ⟨L, rfl, ⟨_, SqL.of (F13.lst hL)⟩, for_list (K := K) (a := L) (xs := [.ref u1, .ref u2]) (fun i σ H' => ∃ y9 y10 y11 y12 : Option V, σ = [some (.ref a), some (.ref d), some (.int m), some (.ref S), some (.ref W), some (.ref hA), some (.int (costM (rwsM ysA))), some (.ref hB), some (.int (costM (rwsM ysB))), y9, y10, y11, y12, none] ∧ Fr [t1, t2] d (cutH d H13) H') ⟨none, none, none, none, rfl, F13⟩ (fun i σ H' _ hp => ?_) (fun i x σ H14 hx hp => ?_) (fun σ H14 hp => q H14)⟩
    · obtain ⟨_, _, _, _, _, F⟩ := hp
      exact SqL.of (F.lst hL)
    · obtain ⟨y9, y10, y11, y12, rfl, F14⟩ := hp
      obtain ⟨u, h, cs, qs, hxu, hu, hh, si, sub⟩ := rowsAll i (by have := (List.getElem?_eq_some_iff.mp hx).1; exact this)
      cases Option.some.inj (hx.symm.trans hxu)
      refine ⟨u, _, rfl, SqT.of (F14.tup hu), rfl, _, _, rfl, _, _, rfl, rfl, ?_⟩
      have cs0 : ∀ i, i < m → 0 ≤ hadM cs i := fun i hi => by
        rw [si.2 i hi]
        exact sumC_nonneg (fun r hr => (nn r (sub r hr)).1) i
      -- min
      refine ⟨_, rfl, h, rfl, ⟨_, SqL.of (F14.lst hh)⟩, fun B nB => lc_list (K := K) (xs := cs.map V.int) (fun j H' => Same H14 H' ∧ ∃ us : List Int, H' B = some (LI us) ∧ us.length = j ∧ ∀ (k : Nat) n, us[k]? = some n → 0 ≤ n ∧ n ≤ 9 ∧ n ≤ hadM cs k) ⟨same_upd nB, [], upd_same, rfl, fun k n hn => by simp at hn⟩ (fun j H' _ hp => SqL.of (hp.1 _ _ (F14.lst hh))) (fun j x H15 hx hp => ?_) (fun H15 hp => ?_)⟩
      · obtain ⟨s15, us, hB15, lus, bus⟩ := hp
        obtain ⟨n, hn, rfl⟩ := of_get_ints hx
        have hjl := (List.getElem?_eq_some_iff.mp hn).1
        have hjm : j < m := by rw [si.1] at hjl; exact hjl
        have en : hadM cs j = n := Option.some.inj ((hadM_in hjl).symm.trans hn)
        have n0 := cs0 j hjm
        refine ⟨rfl, _, rfl, _, _, rfl, _, hB15, szL' (by rw [List.length_map]; omega), sm_new s15 nB, us ++ [if 9 < n then 9 else n], at_app, by rw [List.length_append, lus]; rfl, fun k x hk => ?_⟩
        by_cases z : k < us.length
        · rw [List.getElem?_append_left z] at hk
          exact bus k x hk
        · have hkl := (List.getElem?_eq_some_iff.mp hk).1
          rw [List.length_append, List.length_singleton] at hkl
          have ek : k = us.length := by omega
          rw [List.getElem?_append_right (by omega), ek, Nat.sub_self] at hk
          have := Option.some.inj hk
          rw [ek, lus, en]
          rw [en] at n0
          split at this <;> omega
      · obtain ⟨s15, us, hB15, lus, bus⟩ := hp
        rw [List.length_map, si.1] at lus
        have F15 := F14.same s15
        have smu : Small us := fun x hx => by
          obtain ⟨k, hk, e⟩ := List.getElem_of_mem hx
          have := bus k x (by rw [List.getElem?_eq_getElem hk, e])
          exact ⟨this.1, this.2.1⟩
        have nBd := F14.apart nB
        have nB14 : cutH d H14 B = none := by rw [cut_at nBd]; exact nB
        -- cut
        refine ⟨B, us, rfl, hB15, smu, by omega, by omega, fun H16 ws s16 hB16 lws smw _ lew => ?_⟩
        have F16 : Fr [t1, t2] d (cutH d H13) H16 := by
          obtain ⟨ds, hdd⟩ := F15.dr
          refine ⟨fun b o hb hn => ?_, ⟨ds, s16 _ _ nBd.symm hdd⟩, fun t ht => ?_⟩
          · have h1 := F14.ke b o hb hn
            obtain ⟨n1, h2⟩ := cut_some h1
            exact cut_put n1 (s16 _ _ (fun z => by rw [z, nB] at h2; cases h2) (s15 _ _ h2))
          · obtain ⟨ps, h1, h2⟩ := F15.tb t ht
            exact ⟨ps, s16 _ _ (ne_of h1 hB15 (fun z => nomatch z)) h1, h2⟩
        -- lower it, or not
        refine ⟨fun σ' H' => ∃ (C : Addr) (vs : List Int), σ' = [some (.ref a), some (.ref d), some (.int m), some (.ref S), some (.ref W), some (.ref hA), some (.int (costM (rwsM ysA))), some (.ref hB), some (.int (costM (rwsM ysB))), some (.ref h), some (.int (costM qs)), some (.ref C), y12, none] ∧ Fr [t1, t2] d (cutH d H13) H' ∧ H' C = some (LI vs) ∧ C ≠ d ∧ LeW vs ws, ?_, fun σ17 H17 hI => ?_⟩
        · obtain ⟨ds16, hd16⟩ := F16.dr
          refine ⟨_, rfl, d, ds16, rfl, hd16, fun H17 s17 hd17 => ⟨_, _, rfl, rfl, (by show (0 : Int) < _; decide), rfl, _, rfl, ite2 (fun _ => ?_) (fun _ => ?_)⟩⟩
          · have hB17 := s17 _ _ nBd hB16
            have F17 := F16.but s17 ⟨_, hd17⟩
            refine ⟨_, rfl, B, rfl, ⟨_, SqL.of hB17⟩, fun C nC => lc_list (K := K) (xs := ws.map V.int) (fun i H' => SameBut d H17 H' ∧ (∃ ds, H' d = some (LI ds)) ∧ ∃ vs, H' C = some (LI vs) ∧ LeW vs (ws.take i)) ⟨.of (same_upd nC), ⟨_, (same_upd nC) _ _ hd17⟩, [], upd_same, True.intro⟩ (fun i H' _ hp => ?_) (fun i x H18 hx hp => ?_) (fun H18 hp => ?_)⟩
            · exact SqL.of (hp.1 _ _ nBd hB17)
            · obtain ⟨s18, ⟨ds18, hd18⟩, vs, hC, lew2⟩ := hp
              obtain ⟨n, hn, rfl⟩ := of_get_ints hx
              have n0 := (smw n (List.mem_of_getElem? hn)).1
              have nCd : C ≠ d := (ne_of_none hd17 nC).symm
              have lu := lew2.len
              rw [List.length_take] at lu
              refine ⟨rfl, _, rfl, _, rfl, d, ds18, rfl, hd18, fun H19 s19 hd19 => ⟨_, rfl, _, _, rfl, rfl, _, _, rfl, rfl, (by show (0 : Int) < n + 1; omega), _, _, rfl, rfl, ?_⟩⟩
              have r1 := Int.emod_nonneg (ds18.headD 0) (show n + 1 ≠ 0 by omega)
              have r2 := Int.emod_lt_of_pos (ds18.headD 0) (show 0 < n + 1 by omega)
              refine ⟨_, s19 _ _ nCd hC, szL' (by rw [List.length_map]; omega), (s18.trans s19).new nC, ⟨_, by rw [upd_ne nCd.symm]; exact hd19⟩, vs ++ [n - ds18.headD 0 % (n + 1)], at_app, ?_⟩
              rw [take_succ_at hn]
              exact lew2.snoc (by omega) (by omega)
            · obtain ⟨s18, hdr18, vs, hC, lew2⟩ := hp
              rw [List.length_map, List.take_length] at lew2
              exact ⟨C, vs, rfl, F17.but s18 hdr18, hC, (ne_of_none hd17 nC).symm, lew2⟩
          · exact ⟨B, ws, rfl, F16.but s17 ⟨_, hd17⟩, s17 _ _ nBd hB16, nBd, LeW.refl fun x hx => (smw x hx).1⟩
        · obtain ⟨C, vs, rfl, F17, hC, nCd, lev⟩ := hI
          have lvu := lev.trans lew
          have lv := lvu.len
          have smv := lvu.small smu
          have cov : CovM qs vs := si.cov fun i n hn => by
            obtain ⟨k, hk, _, hle⟩ := lvu.get hn
            have := (bus i k hk).2.2
            have hi := (List.getElem?_eq_some_iff.mp hn).1
            exact ⟨by omega, by omega⟩
          -- least
          refine ⟨_, rfl, _, rfl, S, C, os', vs, rfl, (sh13.ke F17.ke).same cut_le, gd', fit, nn, F17.tb, hC, by omega, smv, fun H18 e18 li => ?_, fun H18 tt qq bls ys p e18 ntt htt pur li _ _ _ _ _ _ => ?_⟩
          · exact absurd cov (li qs sub)
          · have F18 := F17.ext e18
            have ple := li.2 qs sub cov
            refine ⟨_, rfl, rfl, false, rfl, ?_⟩
            refine ⟨_, rfl, tt, _, _, _, rfl, rfl, SqT.of htt, atI_nat (j := 0) rfl, _, rfl, _, _, rfl, rfl, false, (by show V.bl (decide (p > costM qs)) = _; rw [decide_eq_false (by omega)]), ?_⟩
            -- cases
            refine ⟨_, rfl, _, rfl, S, C, os', vs, rfl, (sh13.ke F18.ke).same cut_le, gd', fit, nn, F18.tb, e18.lst hC, by omega, smv, fun H19 qt xs e19 nqt tab exs hli => ?_⟩
            obtain ⟨las, hqt, alt, _⟩ := tab
            obtain ⟨l, hl⟩ := lesser_last (w := vs) fun x hx => (smv x hx).1
            rw [hl] at exs
            have lxs := congrArg List.length exs
            rw [List.length_map, List.length_append, List.length_singleton] at lxs
            have llas := alt.len
            obtain ⟨z, zr, ez⟩ : ∃ z zr, las = zr ++ [z] := by
              rcases List.eq_nil_or_concat las with e | ⟨zr, z, e⟩
              · rw [e] at llas
                simp at llas
                omega
              · exact ⟨z, zr, by rw [e, List.concat_eq_append]⟩
            have gz : las[l.length]? = some z := by
              rw [ez, List.getElem?_append_right (by have := congrArg List.length ez; rw [List.length_append, List.length_singleton] at this; omega)]
              have := congrArg List.length ez
              rw [List.length_append, List.length_singleton] at this
              rw [show l.length - zr.length = 0 by omega]
              rfl
            obtain ⟨x, hx, hzx⟩ := alt.get gz
            have ex : x.2.1 = vs := by
              have := congrArg (·[l.length]?) exs
              simp only [List.getElem?_map, hx] at this
              rw [List.getElem?_append_right (Nat.le_refl _), Nat.sub_self] at this
              exact Option.some.inj this
            have lx := hli x (List.mem_of_getElem? hx)
            rw [ex] at lx
            have eo := leastIs_unique lx li
            refine ⟨1, rfl, qt, _, -1, _, rfl, rfl, SqL.of hqt, (by rw [ez, List.map_append]; exact atI_last _ _), z, _, _, _, rfl, rfl, SqT.of hzx.1, atI_nat (j := 1) rfl, _, rfl, tt, _, _, _, rfl, rfl, SqT.of (e19.tup htt), atI_nat (j := 0) rfl, ?_⟩
            rw [eo]
            refine ⟨rfl, false, (by show V.bl (!decide (V.int p = V.int p)) = _; rw [decide_eq_true rfl]; rfl), ?_⟩
            exact ⟨_, _, _, _, rfl, F18.ext e19⟩
end
/-! ### the end, with tables of code objects -/
theorem tabIn_of {K : PySem.W.Frag} {x : Str} {f c P : Addr} {oc e : Value} {od dd : Option Addr} {fd : FuncData} {sl sl' : Array (Option Value)} {vs : Array Value} (a : PySem.W.nsIn K mainGlobals x = some (some (.ref f))) (l : K.lookup f = some ⟨oc, od, .func fd, sl⟩) (hc : fd.code = .ref c)
    (lc : K.lookup c = some ⟨e, dd, .fields vs, sl'⟩) (hv : vs[11]? = some (.ref P)) : PySem.W.tabIn K x = some (c, P) := by
  unfold PySem.W.tabIn
  rw [a]
  simp only [l, hc, lc, hv]
theorem walk_ofG {l : PySem.W.OpenLaw} {n k : Nat} {q : Program} {loose : List Str} {XP : (Str → Option Value) → Heap → Prop} {YP : World → Heap → Prop} {d : DefRec} {K : Params → PySem.W.Frag} {CX : World → CXT} {x : Str}
    (hn : l.most = some n) (hn2 : n ≤ sizeLine) (hdf : d.params.defaults = []) (hr : Room k callerA) (hY : ∀ (w : World) (h : Heap), YP w h → (K w.params).In h)
    (F : ∀ (w : World) (mg : Str → Option Value) (fa : Addr) (h : Heap), (K w.params).In h → h.Ns mainGlobals mg → mg d.name = some (.ref fa) →
      (∀ (y : Str) (c P : Addr), ((recsOf q).find? fun e => e.name == y).isSome = true → PySem.W.tabIn (K w.params) y = some (c, P) → PySem.W.CodeHd h c P ∧ h.get? P = some { cls := .none, data := .fields #[] }) → LamX.LawAtS l w (K w.params) (CX w) k n x mg fa h)
    (hCX : ∀ (w : World) (H : Hp) (s : Shared) (e : Value) (s' : Shared), CX w [] H s (fun _ _ _ => False) e s' → False) :
    PySem.W.WalkO q loose XP YP l.row.toRowW d [] (fun f vs => PySem.call f vs) := by
  refine Att.attach_callB hn hdf fun w s₀ s₁ mg mb fa o pm cd doc a vs ns G Y ho hd hcd hmg hobj hints hlen hbits hg => ?_
  have KX := hY w _ Y
  obtain ⟨fd, cs, sp, hT, nT, C, hb, hsp, hF⟩ := F w mg fa _ KX G.T.g hmg fun y c P hy ht => by
    obtain ⟨dd, hdd⟩ := Option.isSome_iff_exists.mp hy
    exact PySem.W.tab_of G.T KX hdd ht
  exact LamX.law_callTs KX G.T.g G.T.b G.T.builtins G.T.nolimit hg hT nT C G.T.bmain hobj hints (Nat.le_trans hlen hn2) hr hF hb (fun H hH hS => hsp H a ns hlen hbits hH hS) fun H e s' => hCX w H s₁ e s'
/-! ### what the top has written -/
theorem all_mk {l : PySem.W.OpenLaw} {w : World} {q : Program} {K : PySem.W.Frag} {h : Heap} {mg : Str → Option Value} {fa f1 f2 f3 f4 f5 f6 f7 f8 f9 f10 f11 f12 f13 f14 f15 f16 f17 f18 f19 f20 f21 f22 f23 f24 f25 f26 f27 f28 f29 f30 f31 f32 f33 f34 : Addr} (X : K.In h) (G : h.Ns mainGlobals mg) (hfa : mg "law" = some (.ref fa))
    (tabs : ∀ (y : Str) (c P : Addr), ((recsOf q).find? fun e => e.name == y).isSome = true → PySem.W.tabIn K y = some (c, P) → PySem.W.CodeHd h c P ∧ h.get? P = some { cls := .none, data := .fields #[] })
    {od1 an1 od2 an2 od3 an3 od4 an4 od5 an5 od6 an6 od7 an7 od8 an8 od9 an9 od10 an10 od11 an11 od12 an12 od13 an13 od14 an14 od15 an15 od16 an16 od17 an17 od18 an18 od19 an19 od20 an20 od21 an21 od22 an22 od23 an23 od24 an24 od25 an25 od26 an26 od27 an27 od28 an28 od29 an29 od30 an30 od31 an31 od32 an32 od33 an33 od34 an34 : Option Addr} {sl1 sl2 sl3 sl4 sl5 sl6 sl7 sl8 sl9 sl10 sl11 sl12 sl13 sl14 sl15 sl16 sl17 sl18 sl19 sl20 sl21 sl22 sl23 sl24 sl25 sl26 sl27 sl28 sl29 sl30 sl31 sl32 sl33 sl34 : Array (Option Value)} {oc1 kV1 dc1 pm1 ct1 cd1 oc2 kV2 dc2 pm2 ct2 cd2 oc3 kV3 dc3 pm3 ct3 oc4 kV4 dc4 pm4 ct4 cd4 oc5 kV5 dc5 pm5 ct5 cd5 oc6 kV6 dc6 pm6 ct6 cd6 oc7 kV7 dc7 pm7 ct7 cd7 oc8 kV8 dc8 pm8 ct8 cd8 oc9 kV9 dc9 pm9 ct9 cd9 oc10 kV10 dc10 pm10 ct10 cd10 oc11 kV11 dc11 pm11 ct11 cd11 oc12 kV12 dc12 pm12 ct12 cd12 oc13 kV13 dc13 pm13 ct13 oc14 kV14 dc14 pm14 ct14 cd14 oc15 kV15 dc15 pm15 ct15 cd15 oc16 kV16 dc16 pm16 ct16 cd16 oc17 kV17 dc17 pm17 ct17 cd17 oc18 kV18 dc18 pm18 ct18 cd18 oc19 kV19 dc19 pm19 ct19 cd19 oc20 kV20 dc20 pm20 ct20 cd20 oc21 kV21 dc21 pm21 ct21 cd21 oc22 kV22 dc22 pm22 ct22 cd22 oc23 kV23 dc23 pm23 ct23 cd23 oc24 kV24 dc24 pm24 ct24 cd24 oc25 kV25 dc25 pm25 ct25 cd25 oc26 kV26 dc26 pm26 ct26 cd26 oc27 kV27 dc27 pm27 ct27 cd27 oc28 kV28 dc28 pm28 ct28 cd28 oc29 kV29 dc29 pm29 ct29 cd29 oc30 kV30 dc30 pm30 ct30 cd30 oc31 kV31 dc31 pm31 ct31 cd31 oc32 kV32 dc32 pm32 ct32 cd32 oc33 kV33 dc33 pm33 ct33 cd33 oc34 kV34 dc34 pm34 ct34 cd34 : Value}
    {cT3 PT3 : Addr} {eT3 : Value} {dT3 : Option Addr} {vT3 : Array Value} {sT3 : Array (Option Value)}
    {cT13 PT13 : Addr} {eT13 : Value} {dT13 : Option Addr} {vT13 : Array Value} {sT13 : Array (Option Value)}
    (a1 : PySem.W.nsIn K mainGlobals "law" = some (some (.ref f1))) (l1 : K.lookup f1 = some ⟨oc1, od1, .func (PySem.W.fnOf "law" "law" (defArgs s_law) (defBody s_law) (defScope s_law) .none kV1 dc1 pm1 an1 cd1 ct1), sl1⟩) (c1 : PySem.W.codeIn K cd1 "law" = true) (k1 : PySem.W.keepIn K (.ref f1) = true)
    (a2 : PySem.W.nsIn K mainGlobals "names_pack" = some (some (.ref f2))) (l2 : K.lookup f2 = some ⟨oc2, od2, .func (PySem.W.fnOf "names_pack" "names_pack" (defArgs s_names_pack) (defBody s_names_pack) (defScope s_names_pack) .none kV2 dc2 pm2 an2 cd2 ct2), sl2⟩) (c2 : PySem.W.codeIn K cd2 "names_pack" = true) (k2 : PySem.W.keepIn K (.ref f2) = true)
    (a3 : PySem.W.nsIn K mainGlobals "good_tiers" = some (some (.ref f3))) (l3 : K.lookup f3 = some ⟨oc3, od3, .func (PySem.W.fnOf "good_tiers" "good_tiers" (defArgs s_good_tiers) (defBody s_good_tiers) (defScope s_good_tiers) .none kV3 dc3 pm3 an3 (.ref cT3) ct3), sl3⟩) (c3 : PySem.W.codeIn K (.ref cT3) "good_tiers" = true) (k3 : PySem.W.keepIn K (.ref f3) = true)
    (a4 : PySem.W.nsIn K mainGlobals "can_stand" = some (some (.ref f4))) (l4 : K.lookup f4 = some ⟨oc4, od4, .func (PySem.W.fnOf "can_stand" "can_stand" (defArgs s_can_stand) (defBody s_can_stand) (defScope s_can_stand) .none kV4 dc4 pm4 an4 cd4 ct4), sl4⟩) (c4 : PySem.W.codeIn K cd4 "can_stand" = true) (k4 : PySem.W.keepIn K (.ref f4) = true)
    (a5 : PySem.W.nsIn K mainGlobals "look" = some (some (.ref f5))) (l5 : K.lookup f5 = some ⟨oc5, od5, .func (PySem.W.fnOf "look" "look" (defArgs s_look) (defBody s_look) (defScope s_look) .none kV5 dc5 pm5 an5 cd5 ct5), sl5⟩) (c5 : PySem.W.codeIn K cd5 "look" = true) (k5 : PySem.W.keepIn K (.ref f5) = true)
    (a6 : PySem.W.nsIn K mainGlobals "adds_to" = some (some (.ref f6))) (l6 : K.lookup f6 = some ⟨oc6, od6, .func (PySem.W.fnOf "adds_to" "adds_to" (defArgs s_adds_to) (defBody s_adds_to) (defScope s_adds_to) .none kV6 dc6 pm6 an6 cd6 ct6), sl6⟩) (c6 : PySem.W.codeIn K cd6 "adds_to" = true) (k6 : PySem.W.keepIn K (.ref f6) = true)
    (a7 : PySem.W.nsIn K mainGlobals "choices" = some (some (.ref f7))) (l7 : K.lookup f7 = some ⟨oc7, od7, .func (PySem.W.fnOf "choices" "choices" (defArgs s_choices) (defBody s_choices) (defScope s_choices) .none kV7 dc7 pm7 an7 cd7 ct7), sl7⟩) (c7 : PySem.W.codeIn K cd7 "choices" = true) (k7 : PySem.W.keepIn K (.ref f7) = true)
    (a8 : PySem.W.nsIn K mainGlobals "lines_at" = some (some (.ref f8))) (l8 : K.lookup f8 = some ⟨oc8, od8, .func (PySem.W.fnOf "lines_at" "lines_at" (defArgs s_lines_at) (defBody s_lines_at) (defScope s_lines_at) .none kV8 dc8 pm8 an8 cd8 ct8), sl8⟩) (c8 : PySem.W.codeIn K cd8 "lines_at" = true) (k8 : PySem.W.keepIn K (.ref f8) = true)
    (a9 : PySem.W.nsIn K mainGlobals "lines" = some (some (.ref f9))) (l9 : K.lookup f9 = some ⟨oc9, od9, .func (PySem.W.fnOf "lines" "lines" (defArgs s_lines) (defBody s_lines) (defScope s_lines) .none kV9 dc9 pm9 an9 cd9 ct9), sl9⟩) (c9 : PySem.W.codeIn K cd9 "lines" = true) (k9 : PySem.W.keepIn K (.ref f9) = true)
    (a10 : PySem.W.nsIn K mainGlobals "together" = some (some (.ref f10))) (l10 : K.lookup f10 = some ⟨oc10, od10, .func (PySem.W.fnOf "together" "together" (defArgs s_together) (defBody s_together) (defScope s_together) .none kV10 dc10 pm10 an10 cd10 ct10), sl10⟩) (c10 : PySem.W.codeIn K cd10 "together" = true) (k10 : PySem.W.keepIn K (.ref f10) = true)
    (a11 : PySem.W.nsIn K mainGlobals "content_of" = some (some (.ref f11))) (l11 : K.lookup f11 = some ⟨oc11, od11, .func (PySem.W.fnOf "content_of" "content_of" (defArgs s_content_of) (defBody s_content_of) (defScope s_content_of) .none kV11 dc11 pm11 an11 cd11 ct11), sl11⟩) (c11 : PySem.W.codeIn K cd11 "content_of" = true) (k11 : PySem.W.keepIn K (.ref f11) = true)
    (a12 : PySem.W.nsIn K mainGlobals "piece_price" = some (some (.ref f12))) (l12 : K.lookup f12 = some ⟨oc12, od12, .func (PySem.W.fnOf "piece_price" "piece_price" (defArgs s_piece_price) (defBody s_piece_price) (defScope s_piece_price) .none kV12 dc12 pm12 an12 cd12 ct12), sl12⟩) (c12 : PySem.W.codeIn K cd12 "piece_price" = true) (k12 : PySem.W.keepIn K (.ref f12) = true)
    (a13 : PySem.W.nsIn K mainGlobals "price_of" = some (some (.ref f13))) (l13 : K.lookup f13 = some ⟨oc13, od13, .func (PySem.W.fnOf "price_of" "price_of" (defArgs s_price_of) (defBody s_price_of) (defScope s_price_of) .none kV13 dc13 pm13 an13 (.ref cT13) ct13), sl13⟩) (c13 : PySem.W.codeIn K (.ref cT13) "price_of" = true) (k13 : PySem.W.keepIn K (.ref f13) = true)
    (a14 : PySem.W.nsIn K mainGlobals "priced_lines" = some (some (.ref f14))) (l14 : K.lookup f14 = some ⟨oc14, od14, .func (PySem.W.fnOf "priced_lines" "priced_lines" (defArgs s_priced_lines) (defBody s_priced_lines) (defScope s_priced_lines) .none kV14 dc14 pm14 an14 cd14 ct14), sl14⟩) (c14 : PySem.W.codeIn K cd14 "priced_lines" = true) (k14 : PySem.W.keepIn K (.ref f14) = true)
    (a15 : PySem.W.nsIn K mainGlobals "had" = some (some (.ref f15))) (l15 : K.lookup f15 = some ⟨oc15, od15, .func (PySem.W.fnOf "had" "had" (defArgs s_had) (defBody s_had) (defScope s_had) .none kV15 dc15 pm15 an15 cd15 ct15), sl15⟩) (c15 : PySem.W.codeIn K cd15 "had" = true) (k15 : PySem.W.keepIn K (.ref f15) = true)
    (a16 : PySem.W.nsIn K mainGlobals "rest" = some (some (.ref f16))) (l16 : K.lookup f16 = some ⟨oc16, od16, .func (PySem.W.fnOf "rest" "rest" (defArgs s_rest) (defBody s_rest) (defScope s_rest) .none kV16 dc16 pm16 an16 cd16 ct16), sl16⟩) (c16 : PySem.W.codeIn K cd16 "rest" = true) (k16 : PySem.W.keepIn K (.ref f16) = true)
    (a17 : PySem.W.nsIn K mainGlobals "lesser" = some (some (.ref f17))) (l17 : K.lookup f17 = some ⟨oc17, od17, .func (PySem.W.fnOf "lesser" "lesser" (defArgs s_lesser) (defBody s_lesser) (defScope s_lesser) .none kV17 dc17 pm17 an17 cd17 ct17), sl17⟩) (c17 : PySem.W.codeIn K cd17 "lesser" = true) (k17 : PySem.W.keepIn K (.ref f17) = true)
    (a18 : PySem.W.nsIn K mainGlobals "best_step" = some (some (.ref f18))) (l18 : K.lookup f18 = some ⟨oc18, od18, .func (PySem.W.fnOf "best_step" "best_step" (defArgs s_best_step) (defBody s_best_step) (defScope s_best_step) .none kV18 dc18 pm18 an18 cd18 ct18), sl18⟩) (c18 : PySem.W.codeIn K cd18 "best_step" = true) (k18 : PySem.W.keepIn K (.ref f18) = true)
    (a19 : PySem.W.nsIn K mainGlobals "all_steps" = some (some (.ref f19))) (l19 : K.lookup f19 = some ⟨oc19, od19, .func (PySem.W.fnOf "all_steps" "all_steps" (defArgs s_all_steps) (defBody s_all_steps) (defScope s_all_steps) .none kV19 dc19 pm19 an19 cd19 ct19), sl19⟩) (c19 : PySem.W.codeIn K cd19 "all_steps" = true) (k19 : PySem.W.keepIn K (.ref f19) = true)
    (a20 : PySem.W.nsIn K mainGlobals "cheapest" = some (some (.ref f20))) (l20 : K.lookup f20 = some ⟨oc20, od20, .func (PySem.W.fnOf "cheapest" "cheapest" (defArgs s_cheapest) (defBody s_cheapest) (defScope s_cheapest) .none kV20 dc20 pm20 an20 cd20 ct20), sl20⟩) (c20 : PySem.W.codeIn K cd20 "cheapest" = true) (k20 : PySem.W.keepIn K (.ref f20) = true)
    (a21 : PySem.W.nsIn K mainGlobals "least" = some (some (.ref f21))) (l21 : K.lookup f21 = some ⟨oc21, od21, .func (PySem.W.fnOf "least" "least" (defArgs s_least) (defBody s_least) (defScope s_least) .none kV21 dc21 pm21 an21 cd21 ct21), sl21⟩) (c21 : PySem.W.codeIn K cd21 "least" = true) (k21 : PySem.W.keepIn K (.ref f21) = true)
    (a22 : PySem.W.nsIn K mainGlobals "cases" = some (some (.ref f22))) (l22 : K.lookup f22 = some ⟨oc22, od22, .func (PySem.W.fnOf "cases" "cases" (defArgs s_cases) (defBody s_cases) (defScope s_cases) .none kV22 dc22 pm22 an22 cd22 ct22), sl22⟩) (c22 : PySem.W.codeIn K cd22 "cases" = true) (k22 : PySem.W.keepIn K (.ref f22) = true)
    (a23 : PySem.W.nsIn K mainGlobals "_law_mix" = some (some (.ref f23))) (l23 : K.lookup f23 = some ⟨oc23, od23, .func (PySem.W.fnOf "_law_mix" "_law_mix" (defArgs s_law_mix) (defBody s_law_mix) (defScope s_law_mix) .none kV23 dc23 pm23 an23 cd23 ct23), sl23⟩) (c23 : PySem.W.codeIn K cd23 "_law_mix" = true) (k23 : PySem.W.keepIn K (.ref f23) = true)
    (a24 : PySem.W.nsIn K mainGlobals "_law_draws" = some (some (.ref f24))) (l24 : K.lookup f24 = some ⟨oc24, od24, .func (PySem.W.fnOf "_law_draws" "_law_draws" (defArgs s_law_draws) (defBody s_law_draws) (defScope s_law_draws) .none kV24 dc24 pm24 an24 cd24 ct24), sl24⟩) (c24 : PySem.W.codeIn K cd24 "_law_draws" = true) (k24 : PySem.W.keepIn K (.ref f24) = true)
    (a25 : PySem.W.nsIn K mainGlobals "_law_pop" = some (some (.ref f25))) (l25 : K.lookup f25 = some ⟨oc25, od25, .func (PySem.W.fnOf "_law_pop" "_law_pop" (defArgs s_law_pop) (defBody s_law_pop) (defScope s_law_pop) .none kV25 dc25 pm25 an25 cd25 ct25), sl25⟩) (c25 : PySem.W.codeIn K cd25 "_law_pop" = true) (k25 : PySem.W.keepIn K (.ref f25) = true)
    (a26 : PySem.W.nsIn K mainGlobals "_law_cut" = some (some (.ref f26))) (l26 : K.lookup f26 = some ⟨oc26, od26, .func (PySem.W.fnOf "_law_cut" "_law_cut" (defArgs s_law_cut) (defBody s_law_cut) (defScope s_law_cut) .none kV26 dc26 pm26 an26 cd26 ct26), sl26⟩) (c26 : PySem.W.codeIn K cd26 "_law_cut" = true) (k26 : PySem.W.keepIn K (.ref f26) = true)
    (a27 : PySem.W.nsIn K mainGlobals "_law_content" = some (some (.ref f27))) (l27 : K.lookup f27 = some ⟨oc27, od27, .func (PySem.W.fnOf "_law_content" "_law_content" (defArgs s_law_content) (defBody s_law_content) (defScope s_law_content) .none kV27 dc27 pm27 an27 cd27 ct27), sl27⟩) (c27 : PySem.W.codeIn K cd27 "_law_content" = true) (k27 : PySem.W.keepIn K (.ref f27) = true)
    (a28 : PySem.W.nsIn K mainGlobals "_law_price" = some (some (.ref f28))) (l28 : K.lookup f28 = some ⟨oc28, od28, .func (PySem.W.fnOf "_law_price" "_law_price" (defArgs s_law_price) (defBody s_law_price) (defScope s_law_price) .none kV28 dc28 pm28 an28 cd28 ct28), sl28⟩) (c28 : PySem.W.codeIn K cd28 "_law_price" = true) (k28 : PySem.W.keepIn K (.ref f28) = true)
    (a29 : PySem.W.nsIn K mainGlobals "_law_tiers" = some (some (.ref f29))) (l29 : K.lookup f29 = some ⟨oc29, od29, .func (PySem.W.fnOf "_law_tiers" "_law_tiers" (defArgs s_law_tiers) (defBody s_law_tiers) (defScope s_law_tiers) .none kV29 dc29 pm29 an29 cd29 ct29), sl29⟩) (c29 : PySem.W.codeIn K cd29 "_law_tiers" = true) (k29 : PySem.W.keepIn K (.ref f29) = true)
    (a30 : PySem.W.nsIn K mainGlobals "_law_shop" = some (some (.ref f30))) (l30 : K.lookup f30 = some ⟨oc30, od30, .func (PySem.W.fnOf "_law_shop" "_law_shop" (defArgs s_law_shop) (defBody s_law_shop) (defScope s_law_shop) .none kV30 dc30 pm30 an30 cd30 ct30), sl30⟩) (c30 : PySem.W.codeIn K cd30 "_law_shop" = true) (k30 : PySem.W.keepIn K (.ref f30) = true)
    (a31 : PySem.W.nsIn K mainGlobals "_law_groups" = some (some (.ref f31))) (l31 : K.lookup f31 = some ⟨oc31, od31, .func (PySem.W.fnOf "_law_groups" "_law_groups" (defArgs s_law_groups) (defBody s_law_groups) (defScope s_law_groups) .none kV31 dc31 pm31 an31 cd31 ct31), sl31⟩) (c31 : PySem.W.codeIn K cd31 "_law_groups" = true) (k31 : PySem.W.keepIn K (.ref f31) = true)
    (a32 : PySem.W.nsIn K mainGlobals "_law_sum" = some (some (.ref f32))) (l32 : K.lookup f32 = some ⟨oc32, od32, .func (PySem.W.fnOf "_law_sum" "_law_sum" (defArgs s_law_sum) (defBody s_law_sum) (defScope s_law_sum) .none kV32 dc32 pm32 an32 cd32 ct32), sl32⟩) (c32 : PySem.W.codeIn K cd32 "_law_sum" = true) (k32 : PySem.W.keepIn K (.ref f32) = true)
    (a33 : PySem.W.nsIn K mainGlobals "_law_lines" = some (some (.ref f33))) (l33 : K.lookup f33 = some ⟨oc33, od33, .func (PySem.W.fnOf "_law_lines" "_law_lines" (defArgs s_law_lines) (defBody s_law_lines) (defScope s_law_lines) .none kV33 dc33 pm33 an33 cd33 ct33), sl33⟩) (c33 : PySem.W.codeIn K cd33 "_law_lines" = true) (k33 : PySem.W.keepIn K (.ref f33) = true)
    (a34 : PySem.W.nsIn K mainGlobals "_law_bought" = some (some (.ref f34))) (l34 : K.lookup f34 = some ⟨oc34, od34, .func (PySem.W.fnOf "_law_bought" "_law_bought" (defArgs s_law_bought) (defBody s_law_bought) (defScope s_law_bought) .none kV34 dc34 pm34 an34 cd34 ct34), sl34⟩) (c34 : PySem.W.codeIn K cd34 "_law_bought" = true) (k34 : PySem.W.keepIn K (.ref f34) = true)
    (lc3 : K.lookup cT3 = some ⟨eT3, dT3, .fields vT3, sT3⟩) (hv3 : vT3[11]? = some (.ref PT3)) (nt3 : (K.lookup PT3).isNone = true) (rc3 : ((recsOf q).find? fun e => e.name == ("good_tiers" : Str)).isSome = true)
    (lc13 : K.lookup cT13 = some ⟨eT13, dT13, .fields vT13, sT13⟩) (hv13 : vT13[11]? = some (.ref PT13)) (nt13 : (K.lookup PT13).isNone = true) (rc13 : ((recsOf q).find? fun e => e.name == ("price_of" : Str)).isSome = true)
    (z1 : PySem.W.nsIn K mainGlobals "len" = some none)
    (z2 : PySem.W.nsIn K mainGlobals "range" = some none)
    (z3 : PySem.W.nsIn K mainGlobals "max" = some none)
    (z4 : PySem.W.nsIn K mainGlobals "list" = some none)
    (z5 : PySem.W.nsIn K mainGlobals "isinstance" = some none)
    (z6 : PySem.W.nsIn K mainGlobals "int" = some none)
    (z7 : PySem.W.nsIn K mainGlobals "bool" = some none)
    (z8 : PySem.W.nsIn K mainGlobals "enumerate" = some none)
    (z9 : PySem.W.nsIn K mainGlobals "all" = some none)
    (z10 : PySem.W.nsIn K mainGlobals "zip" = some none)
    (z11 : PySem.W.nsIn K mainGlobals "reversed" = some none)
    (z12 : PySem.W.nsIn K mainGlobals "sum" = some none)
    (z13 : PySem.W.nsIn K mainGlobals "sorted" = some none)
    (z14 : PySem.W.nsIn K mainGlobals "tuple" = some none)
    (z15 : PySem.W.nsIn K mainGlobals "any" = some none)
    (z16 : PySem.W.nsIn K mainGlobals "min" = some none)
    (z17 : PySem.W.nsIn K mainGlobals "str" = some none)
    (z18 : PySem.W.nsIn K mainGlobals "abs" = some none)
    {tk1 : Tok} (q1 : PySem.W.nsIn K mainGlobals "MOST_TIERS" = some (some (.int 4 tk1)))
    {tk2 : Tok} (q2 : PySem.W.nsIn K mainGlobals "MOST_PIECES" = some (some (.int 12 tk2)))
    : LamX.LawAtS l w K CX0 8 63 "_law_script" mg fa h := by
  have e := hfa.symm.trans (PySem.W.mg_of X G a1)
  cases e
  have F1 := fun_mk (st := s_law) l1 c1 k1
  have b1 := F1.binds (ps := ["_law_script"]) fun _ _ _ _ _ _ us hl => match us, hl with | [_], _ => rfl
  have F2 := fun_mk (st := s_names_pack) l2 c2 k2
  have b2 := F2.binds (ps := ["shop", "at"]) fun _ _ _ _ _ _ us hl => match us, hl with | [_, _], _ => rfl
  have F3 := fun_mk (st := s_good_tiers) l3 c3 k3
  have b3 := F3.binds (ps := ["tiers"]) fun _ _ _ _ _ _ us hl => match us, hl with | [_], _ => rfl
  have F4 := fun_mk (st := s_can_stand) l4 c4 k4
  have b4 := F4.binds (ps := ["shop", "at"]) fun _ _ _ _ _ _ us hl => match us, hl with | [_, _], _ => rfl
  have F5 := fun_mk (st := s_look) l5 c5 k5
  have b5 := F5.binds (ps := ["shop"]) fun _ _ _ _ _ _ us hl => match us, hl with | [_], _ => rfl
  have F6 := fun_mk (st := s_adds_to) l6 c6 k6
  have b6 := F6.binds (ps := ["shop", "place"]) fun _ _ _ _ _ _ us hl => match us, hl with | [_, _], _ => rfl
  have F7 := fun_mk (st := s_choices) l7 c7 k7
  have b7 := F7.binds (ps := ["places"]) fun _ _ _ _ _ _ us hl => match us, hl with | [_], _ => rfl
  have F8 := fun_mk (st := s_lines_at) l8 c8 k8
  have b8 := F8.binds (ps := ["shop", "place"]) fun _ _ _ _ _ _ us hl => match us, hl with | [_, _], _ => rfl
  have F9 := fun_mk (st := s_lines) l9 c9 k9
  have b9 := F9.binds (ps := ["shop"]) fun _ _ _ _ _ _ us hl => match us, hl with | [_], _ => rfl
  have F10 := fun_mk (st := s_together) l10 c10 k10
  have b10 := F10.binds (ps := ["content", "other"]) fun _ _ _ _ _ _ us hl => match us, hl with | [_, _], _ => rfl
  have F11 := fun_mk (st := s_content_of) l11 c11 k11
  have b11 := F11.binds (ps := ["shop", "line"]) fun _ _ _ _ _ _ us hl => match us, hl with | [_, _], _ => rfl
  have F12 := fun_mk (st := s_piece_price) l12 c12 k12
  have b12 := F12.binds (ps := ["tiers", "count"]) fun _ _ _ _ _ _ us hl => match us, hl with | [_, _], _ => rfl
  have F13 := fun_mk (st := s_price_of) l13 c13 k13
  have b13 := F13.binds (ps := ["shop", "line"]) fun _ _ _ _ _ _ us hl => match us, hl with | [_, _], _ => rfl
  have F14 := fun_mk (st := s_priced_lines) l14 c14 k14
  have b14 := F14.binds (ps := ["shop"]) fun _ _ _ _ _ _ us hl => match us, hl with | [_], _ => rfl
  have F15 := fun_mk (st := s_had) l15 c15 k15
  have b15 := F15.binds (ps := ["content", "thing"]) fun _ _ _ _ _ _ us hl => match us, hl with | [_, _], _ => rfl
  have F16 := fun_mk (st := s_rest) l16 c16 k16
  have b16 := F16.binds (ps := ["want", "content"]) fun _ _ _ _ _ _ us hl => match us, hl with | [_, _], _ => rfl
  have F17 := fun_mk (st := s_lesser) l17 c17 k17
  have b17 := F17.binds (ps := ["want"]) fun _ _ _ _ _ _ us hl => match us, hl with | [_], _ => rfl
  have F18 := fun_mk (st := s_best_step) l18 c18 k18
  have b18 := F18.binds (ps := ["less", "priced", "steps"]) fun _ _ _ _ _ _ us hl => match us, hl with | [_, _, _], _ => rfl
  have F19 := fun_mk (st := s_all_steps) l19 c19 k19
  have b19 := F19.binds (ps := ["priced", "want"]) fun _ _ _ _ _ _ us hl => match us, hl with | [_, _], _ => rfl
  have F20 := fun_mk (st := s_cheapest) l20 c20 k20
  have b20 := F20.binds (ps := ["priced", "want"]) fun _ _ _ _ _ _ us hl => match us, hl with | [_, _], _ => rfl
  have F21 := fun_mk (st := s_least) l21 c21 k21
  have b21 := F21.binds (ps := ["shop", "want"]) fun _ _ _ _ _ _ us hl => match us, hl with | [_, _], _ => rfl
  have F22 := fun_mk (st := s_cases) l22 c22 k22
  have b22 := F22.binds (ps := ["shop", "want"]) fun _ _ _ _ _ _ us hl => match us, hl with | [_, _], _ => rfl
  have F23 := fun_mk (st := s_law_mix) l23 c23 k23
  have b23 := F23.binds (ps := ["_law_cell", "_law_turn"]) fun _ _ _ _ _ _ us hl => match us, hl with | [_, _], _ => rfl
  have F24 := fun_mk (st := s_law_draws) l24 c24 k24
  have b24 := F24.binds (ps := ["_law_script", "_law_turn", "_law_many"]) fun _ _ _ _ _ _ us hl => match us, hl with | [_, _, _], _ => rfl
  have F25 := fun_mk (st := s_law_pop) l25 c25 k25
  have b25 := F25.binds (ps := ["_law_draws_here"]) fun _ _ _ _ _ _ us hl => match us, hl with | [_], _ => rfl
  have F26 := fun_mk (st := s_law_cut) l26 c26 k26
  have b26 := F26.binds (ps := ["_law_row"]) fun _ _ _ _ _ _ us hl => match us, hl with | [_], _ => rfl
  have F27 := fun_mk (st := s_law_content) l27 c27 k27
  have b27 := F27.binds (ps := ["_law_draws_here", "_law_many", "_law_most"]) fun _ _ _ _ _ _ us hl => match us, hl with | [_, _, _], _ => rfl
  have F28 := fun_mk (st := s_law_price) l28 c28 k28
  have b28 := F28.binds (ps := ["_law_draws_here"]) fun _ _ _ _ _ _ us hl => match us, hl with | [_], _ => rfl
  have F29 := fun_mk (st := s_law_tiers) l29 c29 k29
  have b29 := F29.binds (ps := ["_law_draws_here"]) fun _ _ _ _ _ _ us hl => match us, hl with | [_], _ => rfl
  have F30 := fun_mk (st := s_law_shop) l30 c30 k30
  have b30 := F30.binds (ps := ["_law_draws_here", "_law_many", "_law_most"]) fun _ _ _ _ _ _ us hl => match us, hl with | [_, _, _], _ => rfl
  have F31 := fun_mk (st := s_law_groups) l31 c31 k31
  have b31 := F31.binds (ps := ["_law_places"]) fun _ _ _ _ _ _ us hl => match us, hl with | [_], _ => rfl
  have F32 := fun_mk (st := s_law_sum) l32 c32 k32
  have b32 := F32.binds (ps := ["_law_one", "_law_other"]) fun _ _ _ _ _ _ us hl => match us, hl with | [_, _], _ => rfl
  have F33 := fun_mk (st := s_law_lines) l33 c33 k33
  have b33 := F33.binds (ps := ["_law_shop_here"]) fun _ _ _ _ _ _ us hl => match us, hl with | [_], _ => rfl
  have F34 := fun_mk (st := s_law_bought) l34 c34 k34
  have b34 := F34.binds (ps := ["_law_wares", "_law_draws_here", "_law_many"]) fun _ _ _ _ _ _ us hl => match us, hl with | [_, _, _], _ => rfl
  have M : Names mg := ⟨PySem.W.mg_none_of X G z1, PySem.W.mg_none_of X G z2, PySem.W.mg_none_of X G z3, PySem.W.mg_none_of X G z4, PySem.W.mg_none_of X G z5, PySem.W.mg_none_of X G z6, PySem.W.mg_none_of X G z7, PySem.W.mg_none_of X G z8, PySem.W.mg_none_of X G z9, PySem.W.mg_none_of X G z10, PySem.W.mg_none_of X G z11, PySem.W.mg_none_of X G z12, PySem.W.mg_none_of X G z13, PySem.W.mg_none_of X G z14, PySem.W.mg_none_of X G z15, PySem.W.mg_none_of X G z16, PySem.W.mg_none_of X G z17, PySem.W.mg_none_of X G z18, ⟨_, PySem.W.mg_of X G q1⟩, ⟨_, PySem.W.mg_of X G q2⟩⟩
  obtain ⟨hd3, ht3⟩ := tabs "good_tiers" cT3 PT3 rc3 (tabIn_of a3 l3 rfl lc3 hv3)
  obtain ⟨hd13, ht13⟩ := tabs "price_of" cT13 PT13 rc13 (tabIn_of a13 l13 rfl lc13 hv13)
  refine ⟨PySem.W.fnOf "law" "law" (defArgs s_law) (defBody s_law) (defScope s_law) .none kV1 dc1 pm1 an1 cd1 ct1, [(cT3, PT3), (cT13, PT13)], sp_law K PT3 PT13, ?hT, ?nT, ?hC, fun s v => .of_eq rfl, fun H a ns hl _ hT hS => ⟨a, ns, rfl, hS, hl, ⟨#[], hT (cT3, PT3) List.mem_cons_self, True.intro⟩, ⟨#[], hT (cT13, PT13) (List.mem_cons_of_mem _ List.mem_cons_self), True.intro⟩, fun _ => rfl⟩, fun base _ _ hB => ?_⟩
  case hT =>
    exact fun p hp => by
      rcases List.mem_cons.mp hp with rfl | hp
      · exact ht3
      rcases List.mem_cons.mp hp with rfl | hp
      · exact ht13
      cases hp
  case nT =>
    exact fun p hp => by
      rcases List.mem_cons.mp hp with rfl | hp
      · exact Option.isNone_iff_eq_none.mp nt3
      rcases List.mem_cons.mp hp with rfl | hp
      · exact Option.isNone_iff_eq_none.mp nt13
      cases hp
  case hC =>
    exact fun p hp => by
      rcases List.mem_cons.mp hp with rfl | hp
      · exact hd3
      rcases List.mem_cons.mp hp with rfl | hp
      · exact hd13
      cases hp
  have T3 := hB (cT3, PT3) List.mem_cons_self
  have T13 := hB (cT13, PT13) (List.mem_cons_of_mem _ List.mem_cons_self)
  exact ok_law M ⟨F1, PySem.W.mg_of X G a1, b1⟩ ⟨F2, PySem.W.mg_of X G a2, b2⟩ ⟨F3, PySem.W.mg_of X G a3, b3⟩ ⟨F4, PySem.W.mg_of X G a4, b4⟩ ⟨F5, PySem.W.mg_of X G a5, b5⟩ ⟨F6, PySem.W.mg_of X G a6, b6⟩ ⟨F7, PySem.W.mg_of X G a7, b7⟩ ⟨F8, PySem.W.mg_of X G a8, b8⟩ ⟨F9, PySem.W.mg_of X G a9, b9⟩ ⟨F10, PySem.W.mg_of X G a10, b10⟩ ⟨F11, PySem.W.mg_of X G a11, b11⟩ ⟨F12, PySem.W.mg_of X G a12, b12⟩ ⟨F13, PySem.W.mg_of X G a13, b13⟩ ⟨F14, PySem.W.mg_of X G a14, b14⟩ ⟨F15, PySem.W.mg_of X G a15, b15⟩ ⟨F16, PySem.W.mg_of X G a16, b16⟩ ⟨F17, PySem.W.mg_of X G a17, b17⟩ ⟨F18, PySem.W.mg_of X G a18, b18⟩ ⟨F19, PySem.W.mg_of X G a19, b19⟩ ⟨F20, PySem.W.mg_of X G a20, b20⟩ ⟨F21, PySem.W.mg_of X G a21, b21⟩ ⟨F22, PySem.W.mg_of X G a22, b22⟩ ⟨F23, PySem.W.mg_of X G a23, b23⟩ ⟨F24, PySem.W.mg_of X G a24, b24⟩ ⟨F25, PySem.W.mg_of X G a25, b25⟩ ⟨F26, PySem.W.mg_of X G a26, b26⟩ ⟨F27, PySem.W.mg_of X G a27, b27⟩ ⟨F28, PySem.W.mg_of X G a28, b28⟩ ⟨F29, PySem.W.mg_of X G a29, b29⟩ ⟨F30, PySem.W.mg_of X G a30, b30⟩ ⟨F31, PySem.W.mg_of X G a31, b31⟩ ⟨F32, PySem.W.mg_of X G a32, b32⟩ ⟨F33, PySem.W.mg_of X G a33, b33⟩ ⟨F34, PySem.W.mg_of X G a34, b34⟩ rfl ⟨T3.code, T3.bm, T3.gP⟩ rfl ⟨T13.code, T13.bm, T13.gP⟩
end Pk
open PySem PySem.W PyProof.Rows
set_option maxHeartbeats 0 in
theorem PySem.Challenge.cw_packwants_k16_whole_no_purchase_costs_le_holds : PySem.Challenge.rw_packwants_k16_whole_no_purchase_costs_le.Holds := by
  w_on; o_law; k_head; (case hw => w_witness2)
  k_fill
  refine Pk.walk_ofG (l := PySem.Challenge.rw_packwants_k16_whole_no_purchase_costs_le) (n := 63) (k := 8) (x := "_law_script") (CX := fun _ => L2.CX0) rfl (by decide) rfl ⟨rfl, by decide, by decide⟩ (fun w h Y => PySem.W.kIn_of Y) ?F (fun _ _ _ _ _ h => h)
  case F =>
    intro w mg fa h KX G hmg tabs
    refine' Pk.all_mk KX G hmg tabs ?a1 ?l1 ?c1 ?k1 ?a2 ?l2 ?c2 ?k2 ?a3 ?l3 ?c3 ?k3 ?a4 ?l4 ?c4 ?k4 ?a5 ?l5 ?c5 ?k5 ?a6 ?l6 ?c6 ?k6 ?a7 ?l7 ?c7 ?k7 ?a8 ?l8 ?c8 ?k8 ?a9 ?l9 ?c9 ?k9 ?a10 ?l10 ?c10 ?k10 ?a11 ?l11 ?c11 ?k11 ?a12 ?l12 ?c12 ?k12 ?a13 ?l13 ?c13 ?k13 ?a14 ?l14 ?c14 ?k14 ?a15 ?l15 ?c15 ?k15 ?a16 ?l16 ?c16 ?k16 ?a17 ?l17 ?c17 ?k17 ?a18 ?l18 ?c18 ?k18 ?a19 ?l19 ?c19 ?k19 ?a20 ?l20 ?c20 ?k20 ?a21 ?l21 ?c21 ?k21 ?a22 ?l22 ?c22 ?k22 ?a23 ?l23 ?c23 ?k23 ?a24 ?l24 ?c24 ?k24 ?a25 ?l25 ?c25 ?k25 ?a26 ?l26 ?c26 ?k26 ?a27 ?l27 ?c27 ?k27 ?a28 ?l28 ?c28 ?k28 ?a29 ?l29 ?c29 ?k29 ?a30 ?l30 ?c30 ?k30 ?a31 ?l31 ?c31 ?k31 ?a32 ?l32 ?c32 ?k32 ?a33 ?l33 ?c33 ?k33 ?a34 ?l34 ?c34 ?k34 ?lc3 ?hv3 ?nt3 ?rc3 ?lc13 ?hv13 ?nt13 ?rc13 ?z1 ?z2 ?z3 ?z4 ?z5 ?z6 ?z7 ?z8 ?z9 ?z10 ?z11 ?z12 ?z13 ?z14 ?z15 ?z16 ?z17 ?z18 ?q1 ?q2
    (case a1 => k_is); (case l1 => k_is); (case c1 => k_is); (case k1 => k_is); (case a2 => k_is); (case l2 => k_is); (case c2 => k_is); (case k2 => k_is); (case a3 => k_is); (case l3 => k_is); (case c3 => k_is); (case k3 => k_is); (case a4 => k_is); (case l4 => k_is); (case c4 => k_is); (case k4 => k_is); (case a5 => k_is); (case l5 => k_is); (case c5 => k_is); (case k5 => k_is); (case a6 => k_is); (case l6 => k_is); (case c6 => k_is); (case k6 => k_is); (case a7 => k_is); (case l7 => k_is); (case c7 => k_is); (case k7 => k_is); (case a8 => k_is); (case l8 => k_is); (case c8 => k_is); (case k8 => k_is); (case a9 => k_is); (case l9 => k_is); (case c9 => k_is); (case k9 => k_is); (case a10 => k_is); (case l10 => k_is); (case c10 => k_is); (case k10 => k_is); (case a11 => k_is); (case l11 => k_is); (case c11 => k_is); (case k11 => k_is); (case a12 => k_is); (case l12 => k_is); (case c12 => k_is); (case k12 => k_is); (case a13 => k_is); (case l13 => k_is); (case c13 => k_is); (case k13 => k_is); (case a14 => k_is); (case l14 => k_is); (case c14 => k_is); (case k14 => k_is); (case a15 => k_is); (case l15 => k_is); (case c15 => k_is); (case k15 => k_is); (case a16 => k_is); (case l16 => k_is); (case c16 => k_is); (case k16 => k_is); (case a17 => k_is); (case l17 => k_is); (case c17 => k_is); (case k17 => k_is); (case a18 => k_is); (case l18 => k_is); (case c18 => k_is); (case k18 => k_is); (case a19 => k_is); (case l19 => k_is); (case c19 => k_is); (case k19 => k_is); (case a20 => k_is); (case l20 => k_is); (case c20 => k_is); (case k20 => k_is); (case a21 => k_is); (case l21 => k_is); (case c21 => k_is); (case k21 => k_is); (case a22 => k_is); (case l22 => k_is); (case c22 => k_is); (case k22 => k_is); (case a23 => k_is); (case l23 => k_is); (case c23 => k_is); (case k23 => k_is); (case a24 => k_is); (case l24 => k_is); (case c24 => k_is); (case k24 => k_is); (case a25 => k_is); (case l25 => k_is); (case c25 => k_is); (case k25 => k_is); (case a26 => k_is); (case l26 => k_is); (case c26 => k_is); (case k26 => k_is); (case a27 => k_is); (case l27 => k_is); (case c27 => k_is); (case k27 => k_is); (case a28 => k_is); (case l28 => k_is); (case c28 => k_is); (case k28 => k_is); (case a29 => k_is); (case l29 => k_is); (case c29 => k_is); (case k29 => k_is); (case a30 => k_is); (case l30 => k_is); (case c30 => k_is); (case k30 => k_is); (case a31 => k_is); (case l31 => k_is); (case c31 => k_is); (case k31 => k_is); (case a32 => k_is); (case l32 => k_is); (case c32 => k_is); (case k32 => k_is); (case a33 => k_is); (case l33 => k_is); (case c33 => k_is); (case k33 => k_is); (case a34 => k_is); (case l34 => k_is); (case c34 => k_is); (case k34 => k_is); (case lc3 => k_is); (case hv3 => rfl); (case nt3 => rfl); (case rc3 => rfl); (case lc13 => k_is); (case hv13 => rfl); (case nt13 => rfl); (case rc13 => rfl); (case z1 => k_is); (case z2 => k_is); (case z3 => k_is); (case z4 => k_is); (case z5 => k_is); (case z6 => k_is); (case z7 => k_is); (case z8 => k_is); (case z9 => k_is); (case z10 => k_is); (case z11 => k_is); (case z12 => k_is); (case z13 => k_is); (case z14 => k_is); (case z15 => k_is); (case z16 => k_is); (case z17 => k_is); (case z18 => k_is); (case q1 => k_is); (case q2 => k_is)
